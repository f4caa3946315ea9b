/- Contracts and plain lemmas that these laws need. No condition. -/
import Derived.Laws.CopyOwn
import Derived.Test.YtebgjfhaolgcjaaGreatQLE1
import Derived.Test.YtebgjfhaolgcjaaGreatQLE3
namespace Go.Proofs.YtebgjfhaolgcjaaGreat
set_option linter.unusedVariables false
set_option maxHeartbeats 8000000
set_option maxRecDepth 100000
section
open Go.RowKit
section
theorem zDs {P : Program} {o : Oper} {a : Act} {w : World} {K : Act → World → Prop} {Q : Exit → Act → World → Prop} (l c : Operand) (t : TypeId) (hop : o.op = Op.makeSlice t l c)
  (base : Nat) (e : TypeId) (i : TypeInfo) (z : Value) (size : Nat) (h1 : P.underlying t = some (.slice e)) (h2 : P.info? e = some i) (h3 : i.zero = some z) (h4 : i.size = size)
  (kl kc : IntKind) (n : Nat) (hl : a.eval l = .int kl (n : Int)) (hc : a.eval c = .int kc (n : Int)) (b2 : i.bytes * n ≤ 281474976710656) (b3 : n ≤ maxLen) (b4 : base ≤ w.heap.size)
  (hK : ∀ w',w'.ownsRow base e size (.slice (some ⟨w.heap.size,0,none⟩) n n) n (madeCells z.cells (n * size)).toList → w.grownBy w' none → K (a.put o.dst (.slice (some ⟨w.heap.size,0,none⟩) n n)) w') :
  Oper.wp P o a w K Q:=by
 obtain ⟨w',hrun,r1,r2⟩:=run_make_full (P:=P) w base t e i z size h1 h2 h3 h4 kl kc n b2 b3 b4
 unfold Oper.wp
 simp [execOp,hop,hl,hc,hrun,Result.andThen]
 exact hK w' r1 r2
theorem zAp {P : Program} {ops : Array Oper} {o : Oper} {a : Act} {w : World} {K : Act → World → Prop} {Q : Exit → Act → World → Prop} {E : Prop} (hg : o.guard = none) (l c : Operand) (t : TypeId) (hop : o.op = Op.makeSlice t l c)
  (base : Nat) (e : TypeId) (i : TypeInfo) (z : Value) (size : Nat) (h1 : P.underlying t = some (.slice e)) (h2 : P.info? e = some i) (h3 : i.zero = some z) (h4 : i.size = size)
  (kl kc : IntKind) (n : Nat) (hl : a.eval l = .int kl (n : Int)) (hc : a.eval c = .int kc (n : Int)) (b2 : i.bytes * n ≤ 281474976710656) (b3 : n ≤ maxLen) (b4 : base ≤ w.heap.size)
  (hK : ∀ w',w'.ownsRow base e size (.slice (some ⟨w.heap.size,0,none⟩) n n) n (madeCells z.cells (n * size)).toList → w.grownBy w' none → K (a.put o.dst (.slice (some ⟨w.heap.size,0,none⟩) n n)) w') :
  if Region.wanted o (yielded ops a.tmps) = true then Oper.wp P o a w K Q else E:=by
 have hw : Region.wanted o (yielded ops a.tmps) = true:=by simp [Region.wanted,hg]
 rw [if_pos hw]
 exact zDs l c t hop base e i z size h1 h2 h3 h4 kl kc n hl hc b2 b3 b4 hK
structure Sn where
 t : Int
 s : Int
 so : Int
 d : Int
 who : Int
 start : Int
 read : Int
 N : Nat
 turned : Bool
 passes : Int
 ph : Int
 X : List Int
abbrev Sn.list (k : Sn) (g : Nat) : List Value:=[i64 k.t,i64 k.s,i64 k.so,i64 k.d,i64 k.who,i64 k.start,i64 k.read,.slice (some ⟨g,0,none⟩) k.N k.N,.bool k.turned,i64 k.passes,i64 k.ph]
structure AtSn (w : World) (b g : Nat) (k : Sn) : Prop where
 c0 : w.cell? ⟨b,0,none⟩ = some (i64 k.t)
 c1 : w.cell? ⟨b,1,none⟩ = some (i64 k.s)
 c2 : w.cell? ⟨b,2,none⟩ = some (i64 k.so)
 c3 : w.cell? ⟨b,3,none⟩ = some (i64 k.d)
 c4 : w.cell? ⟨b,4,none⟩ = some (i64 k.who)
 c5 : w.cell? ⟨b,5,none⟩ = some (i64 k.start)
 c6 : w.cell? ⟨b,6,none⟩ = some (i64 k.read)
 c7 : w.cell? ⟨b,7,none⟩ = some (.slice (some ⟨g,0,none⟩) k.N k.N)
 c8 : w.cell? ⟨b,8,none⟩ = some (.bool k.turned)
 c9 : w.cell? ⟨b,9,none⟩ = some (i64 k.passes)
 c10 : w.cell? ⟨b,10,none⟩ = some (i64 k.ph)
structure IsSn (base : Nat) (w : World) (b g : Nat) (k : Sn) : Prop where
 obj : IsObj w b (k.list g)
 row : w.ownsRow base 30 1 (.slice (some ⟨g,0,none⟩) k.N k.N) k.N (k.X.map u64)
 bb : base ≤ b
 ne : b ≠ g
section
variable {base : Nat} {w w' : World} {b g : Nat} {k : Sn}
theorem IsSn.at (h : IsSn base w b g k) : AtSn w b g k :=
 ⟨h.obj.at' 0 _ rfl,h.obj.at' 1 _ rfl,h.obj.at' 2 _ rfl,h.obj.at' 3 _ rfl,h.obj.at' 4 _ rfl,h.obj.at' 5 _ rfl,h.obj.at' 6 _ rfl,h.obj.at' 7 _ rfl,h.obj.at' 8 _ rfl,h.obj.at' 9 _ rfl,h.obj.at' 10 _ rfl⟩
theorem IsSn.head (h : IsSn base w b g k) : AtHead w b k.t k.s k.so k.d k.who k.start:=h.obj.head
theorem IsSn.len (h : IsSn base w b g k) : k.X.length = k.N:=by
 have:=h.row.1
 rw [List.length_map] at this
 omega
theorem IsSn.gb (h : IsSn base w b g k) : base ≤ g ∧ g < w.heap.size:=h.row.lt g rfl
theorem IsSn.keep {T : Nat → Prop} (h : IsSn base w b g k) (e : Keep T w w') (hb : ¬ T b) (hg : ¬ T g) : IsSn base w' b g k :=
 ⟨h.obj.keep e hb,e.row h.row (fun i hi=>by cases hi; exact hg),h.bb,h.ne⟩
theorem IsSn.later (h : IsSn base w b g k) (e : Below w.heap.size w w') : IsSn base w' b g k:=h.keep (T:=fun _=>False) (Keep.of_below e) (fun h=>h) (fun h=>h)
theorem IsSn.drew (h : IsSn base w b g k) : IsSn base w.drew b g k:=h.later (Below.refl _ _).drew
theorem IsSn.cell (h : IsSn base w b g k) {j : Nat} {y : Int} (hy : k.X[j]? = some y) : w.cell? ⟨g,j,none⟩ = some (u64 y):=by
 have hj:=(List.getElem?_eq_some_iff.1 hy).1
 rw [h.row.cellAt j (by have:=h.len; omega),List.getElem?_map,hy]
 rfl
theorem IsSn.set (h : IsSn base w b g k) (i : Nat) (u : Value) {k' : Sn} (hk : (k.list g).set i u = k'.list g) (hN : k'.N = k.N) (hX : k'.X = k.X) : IsSn base (w.setCell ⟨b,i,none⟩ u) b g k' :=
 ⟨hk ▸ h.obj.set i u,by rw [hN,hX]; exact zBC h.row ⟨b,i,none⟩ (by simp [Value.ownBlock]; exact fun e=>h.ne e.symm) u,h.bb,h.ne⟩
theorem IsSn.word (h : IsSn base w b g k) (j : Nat) (x : Int) : IsSn base (w.setCell ⟨g,j,none⟩ (u64 x)) b g { k with X:=k.X.set j x } :=
 ⟨h.obj.other j (u64 x) (fun e=>h.ne e.symm),by
  have h2:=h.row.stored j (u64 x)
  show World.ownsRow _ _ _ _ _ k.N ((k.X.set j x).map u64)
  rw [List.map_set]
  exact h2.1,h.bb,h.ne⟩
end
def Sn.fin (k : Sn) : Sn := { k with passes:=k.passes + 1,ph:=if 1 < k.passes + 1 ∧ k.turned = false then 1 else k.ph,read:=0,turned:=false }
def Sn.slot (k : Sn) : Nat:=((k.start + k.read) % (k.N : Int)).toNat
def Sn.put (k : Sn) (x : Int) : Sn := { k with X:=k.X.set k.slot x,turned:=k.turned || decide (x ≠ k.X.getD k.slot 0),read:=k.read + 1 }
def Sn.step (k : Sn) (C : List Int) : Sn:=if k.ph = 0 then if k.read + 1 = (k.N : Int) then (k.put (C.getD k.slot 0)).fin else k.put (C.getD k.slot 0) else k
def Sn.ev (k : Sn) (C : List Int) : List Ev:=if k.ph = 0 then [⟨k.who,0,(k.slot : Nat),C.getD k.slot 0,C.getD k.slot 0,true⟩] else []
structure Sn.Ok (k : Sn) (n : Int) (C : List Int) : Prop where
 lay : Lay k.t k.s n
 N : (k.N : Int) = n
 len : (C.length : Int) = 2 * n + 2 * k.t
 X : k.X.length = k.N
 s0 : 0 ≤ k.start
 s1 : k.start < n
 r0 : 0 ≤ k.read
 r1 : k.read < n
 p0 : 0 ≤ k.passes
 p1 : k.passes ≤ 1000000
section
variable (base : Nat) (w : World) (b g : Nat) (k : Sn)
def WordsPost (X : List Int) (N : Nat) (w : World) (r : Ending) (w' : World) : Prop :=
 ∃ h,r = .returned (.slice (some ⟨h,0,none⟩) N N) ∧ w'.ownsRow w.heap.size 30 1 (.slice (some ⟨h,0,none⟩) N N) N (X.map u64) ∧ Below w.heap.size w w'
theorem zFO (hT : IsSn base w b g k) (w1 : World) (hown : w1.ownsRow w.heap.size 30 1 (.slice (some ⟨w.heap.size,0,none⟩) k.N k.N) k.N (madeCells (Value.int .u64 0).cells (k.N * 1)).toList) (hg : w.grownBy w1 none) :
  Hid (w1.heap[w.heap.size]? = some (.cells (List.replicate k.N (u64 0)).toArray 30 (0,0))) ∧ Hid (Below w.heap.size w w1) ∧ Hid (IsSn base w1 b g k) ∧ Hid (∀ (j : Nat) (v : Value),(k.X.map u64)[j]? = some v → w1.cell? ((⟨g,0,none⟩ : Addr).add j) = some v):=by
 have hb1 : Below w.heap.size w w1:=(Below.refl _ _).grown hg (Nat.le_refl _) (fun k hk=>by cases hk)
 have hT1:=hT.later hb1
 refine ⟨?_,hb1,hT1, ?_⟩
 ·show _ = _
  rw [zA9] at hown
  rcases hown.2 with ⟨h0,_⟩ | ⟨g',cap,cur,hv,_,hh,_,_,hcs,hct⟩
  ·cases h0
  ·cases hv
   rw [hh]
   have h2 : cur.toList = List.replicate k.N (u64 0):=by
    rw [List.take_of_length_le (by rw [Array.length_toList,hcs]; exact Nat.le_refl _)] at hct
    rw [hct,List.map_replicate]
   rw [← h2,Array.toArray_toList]
 ·intro j v hj
  rw [zCa,Nat.zero_add]
  rw [List.getElem?_map] at hj
  obtain ⟨x,hx,rfl⟩:=Option.map_eq_some_iff.1 hj
  exact hT1.cell hx
theorem zEH (hp : k.ph = 1) (hN : k.N ≤ 4096) (hT : IsSn base w b g k) : Calls Tryz.prog 155 #[pt b] w (WordsPost k.X k.N w):=by
 have q : (k.ph != 1) = false:=by simp [hp]
 obtain ⟨c0,c1,c2,c3,c4,c5,c6,c7,c8,c9,c10⟩:=hT.at
 obtain ⟨i,hi,hz0,hz1,hz2⟩:=zAw.info
 have HM:=zI2 (zFO base w b g k hT)
 have HL:=zI2 hT.len
 clear hp hT
 go_enter Tryz.func155,Tryz.ntmps155
 go_wp2_with (first
  | (refine wpList_make_full _ rfl _ _ 70 rfl w.heap.size 30 i (.int .u64 0) 1 zAw.und hi hz0 hz1 .i64 .i64 _ _ k.N rfl rfl rfl rfl (by rw [hz2]; omega) (by unfold maxLen; omega) (Nat.le_refl _) ?_; intro w1 hown hgrow; obtain ⟨HH,HB,HT1,HSRC⟩:=HM.out w1 hown hgrow; clear hown hgrow c0 c1 c2 c3 c4 c5 c6 c7 c8 c9 c10; obtain ⟨c0,c1,c2,c3,c4,c5,c6,c7,c8,c9,c10⟩:=HT1.out.at)
  | (refine wpList_copy_splice rfl _ _ 70 70 rfl 30 zAw.und (by kernel_rfl) _ _ _ _ _ _ rfl rfl w.heap.size 0 (List.replicate k.N (u64 0)) 30 HH.out (k.X.map u64) (by rw [List.length_map,HL.out]; exact (Nat.min_self _).symm) (fun _=>⟨rfl,_,rfl,HSRC.out⟩) (by rw [List.length_map,List.length_replicate,HL.out]; omega) (fun v hv=>by obtain ⟨x,_,rfl⟩:=List.mem_map.1 hv; rfl) w.heap.size w HB.out (Nat.le_refl _) ?_; intro w2 hg2 hb2))
 go_ret
 refine ⟨_,rfl, ?_,hb2⟩
 have hs : splice (List.replicate k.N (u64 0)) 0 (k.X.map u64) = k.X.map u64:=by
  unfold splice
  rw [List.take_zero,List.nil_append,List.drop_of_length_le (by rw [List.length_map,List.length_replicate,HL.out]; omega),List.append_nil]
 have h2:=hg2.out
 rw [hs] at h2
 exact ⟨by rw [List.length_map,HL.out]; omega,.inr ⟨w.heap.size,k.N,_,rfl,Nat.le_refl _,h2,Nat.le_refl _,by unfold maxLen; omega,by simp [HL.out],by rw [Nat.mul_one]; exact List.take_of_length_le (by simp [HL.out])⟩⟩
def sn0 (t s so d who start : Int) (N : Nat) : Sn:=⟨t,s,so,d,who,start,0,N,false,0,0,List.replicate N 0⟩
theorem zA0 (start : Int) (n : Nat) (h1 : 1 ≤ n) (h2 : n ≤ 4096) : IntKind.u64.wrap (n : Int) = n ∧ wrap64 ((IntKind.u64.wrap start).tmod n) = IntKind.u64.wrap start % n ∧ IntKind.i64.wrap ((IntKind.u64.wrap start).tmod n) = IntKind.u64.wrap start % n ∧ 0 ≤ IntKind.u64.wrap start % n ∧ IntKind.u64.wrap start % n < n:=by
 have h0 : 0 ≤ IntKind.u64.wrap start:=by rw [IntKind.wrap_u64]; omega
 have h3:=Int.emod_nonneg (IntKind.u64.wrap start) (show (n : Int) ≠ 0 by omega)
 have h4:=Int.emod_lt_of_pos (IntKind.u64.wrap start) (show (0 : Int) < n by omega)
 rw [Int.tmod_eq_emod_of_nonneg h0]
 exact ⟨by rw [IntKind.wrap_u64]; omega,by unfold wrap64; omega,IntWalk.i64_in _ (by omega),h3,h4⟩
theorem zDl (t s so d who start n : Int) (N : Nat) (hl : Lay t s n) (hN : (N : Int) = n) (hb : base ≤ w.heap.size) :
  Calls Tryz.prog 119 #[cf t s so d,i64 who,i64 start] w fun r w' => ∃ b g,r = .returned (pt b) ∧ IsSn base w' b g (sn0 t s so d who (IntKind.u64.wrap start % N) N) ∧ Below w.heap.size w w' ∧ w.heap.size ≤ b ∧ w.heap.size ≤ g:=by
 have hn1:=hl.n1; have hn2:=hl.n2; have ht1:=hl.t1
 obtain ⟨m1,m2,m5,m3,m4⟩:=zA0 start N (by omega) (by omega)
 have hn0 : ¬ N = 0:=by omega
 obtain ⟨i,hi,hz0,hz1,hz2⟩:=zAw.info
 have hwn : IntKind.u64.wrap n = N:=by rw [← hN]; exact m1
 subst hN
 clear m1
 go_enter Tryz.func119,Tryz.ntmps119
 go_wp2_with fail
 refine (zAv _ _ _ _ N _ hl).mono ?_
 rintro r w1 ⟨rfl,hb1⟩
 have hbox : AtC w1 w.heap.size t s so d:=(AtC.made w t s so d).later hb1 (by simp)
 obtain ⟨q0,q1,q2,q3⟩:=hbox
 have hb01:=zI2 (zAA (zAB (Below.refl _ _) _) hb1)
 clear hb1
 go_wp2_with fail
 refine zAJ ((0,true) :: (1,true) :: (2,true) :: (3,true) :: (4,true) :: (5,true) :: (6,true) :: (7,true) :: (8,true) :: (9,false) :: (10,true) :: (11,false) :: (12,true) :: []) (by kernel_rfl) (by kernel_rfl) (by kernel_rfl) (by decide) (fun _ _ _ _ _ h=>h) (fun hHeld=>?_)
 repeat (first
  | (refine zAC (v := ?_) rfl ?_ ?_ ?_; rotate_left 1; rfl; (focus (intro wS hSw; have hk:=zAE hSw; go_simp; first | done | with_reducible rfl)); (try simp only [Act.put,qset]))
  | (refine zAD rfl ?_ ?_; rfl; (try simp only [Act.put,qset])))
 refine zAG rfl (fun K hK=>?_)
 refine zAp rfl _ _ 70 rfl base 30 i (.int .u64 0) 1 zAw.und hi hz0 hz1 .i64 .i64 N rfl rfl (by rw [hz2]; omega) (by unfold maxLen; omega) (by have:=hb01.out.size; exact Nat.le_trans hb this) ?_
 intro w2 hown hg
 have hs1:=(hown.lt _ rfl).2
 have HG : Hid (Below w1.heap.size w1 w2):=((Below.refl _ _).drew).grown hg (Nat.le_refl _) (fun k hk=>by cases hk)
 have HO:=zI2 hown
 clear hown hg
 refine hK.out _ _ HG.out (fun _=>?_)
 (try simp only [Act.put,qset])
 clear hK K hHeld
 have hHeld:=HG.out
 repeat (first
  | (refine zAC (v := ?_) rfl ?_ ?_ ?_; rotate_left 1; rfl; (focus (intro wS hSw; have hk:=zAE hSw; go_simp; first | done | with_reducible rfl)); (try simp only [Act.put,qset]))
  | (refine zAD rfl ?_ ?_; rfl; (try simp only [Act.put,qset])))
 refine zAG rfl (fun K hK=>?_); go_simp; (try skip); (try go_wp2_with fail); refine hK.out _ _ ?_ ?_; (focus (first | exact zAA hHeld hb' | exact zAB hHeld _ | exact hHeld)); (try clear hb'); clear hHeld hK K; intro hHeld; (try simp only [Act.put,qset])
 repeat (first
  | (refine zAC (v := ?_) rfl ?_ ?_ ?_; rotate_left 1; rfl; (focus (intro wS hSw; have hk:=zAE hSw; go_simp; first | done | with_reducible rfl)); (try simp only [Act.put,qset]))
  | (refine zAD rfl ?_ ?_; rfl; (try simp only [Act.put,qset])))
 first | refine zAI ?_ | skip
 go_wp2
 go_ret
 have ho:=HO.out
 rw [zA9] at ho
 have hsz:=hb01.out.size
 have hd : w1.drew.heap.size = w1.heap.size:=rfl
 exact ⟨w2.heap.size,w1.heap.size,rfl,⟨IsObj.made w2 ((sn0 t s so d who (IntKind.u64.wrap start % N) N).list w1.heap.size) 214,ho.alloc _,by omega,by omega⟩,zAA hb01.out hHeld,by omega,by omega⟩
end
end
section
def SnPost (base : Nat) (w : World) (b g p c : Nat) (v : Value) (k' : Sn) (C' : List Int) (L' : List Ev) (e0 : Ending) (e : Ending) (w' : World) : Prop :=
 e = e0 ∧ ∃ v',Does (fun i=>i = b ∨ i = g) base w w' p c v v' C' L' ∧ IsSn base w' b g k'
section
variable (base : Nat) (w : World) (b g p c : Nat) (v : Value) (C : List Int) (L : List Ev) (k : Sn) (n : Int)
theorem zIP (h4 : k.passes = 0) (p0 : 0 ≤ k.passes) (p1 : k.passes ≤ 1000000) (hT : IsSn base w b g k) :
  Calls Tryz.prog 172 #[pt b] w fun r w'=>r = .returned (.tuple #[]) ∧ IsSn base w' b g k.fin ∧ Keep (· = b) w w':=by
 have hfin : k.fin = { k with passes:=k.passes + 1,read:=0,turned:=false }:=by unfold Sn.fin; rw [if_neg (by rintro ⟨h,h'⟩; omega)]
 rw [hfin]
 clear hfin
 obtain ⟨c0,c1,c2,c3,c4,c5,c6,c7,c8,c9,c10⟩:=hT.at
 have f3:=hT.obj.fz 6
 have f5:=hT.obj.fz 8
 have f6:=hT.obj.fz 9
 have f7:=hT.obj.fz 10
 have e1 : wrap64 (k.passes + 1) = k.passes + 1:=by unfold wrap64; omega
 have q1 : decide ((1 : Int) < k.passes + 1) = false:=decide_eq_false (by omega)
 have HT:=zI2 hT
 clear h4 hT
 go_enter Tryz.func172,Tryz.ntmps172
 go_wp2
 go_end0
 have h1:=HT.out.set 9 (.int .i64 (k.passes + 1)) (k' := { k with passes:=k.passes + 1 }) rfl rfl rfl
 have h2:=h1.set 6 (.int .i64 0) (k' := { k with passes:=k.passes + 1,read:=0 }) rfl rfl rfl
 exact ⟨rfl,h2.set 8 (.bool false) (k' := { k with passes:=k.passes + 1,read:=0,turned:=false }) rfl rfl rfl,(((Keep.refl _ _).own 9 _).own 6 _).own 8 _⟩
theorem zIW (h4 : 0 < k.passes ∧ k.turned = true) (p0 : 0 ≤ k.passes) (p1 : k.passes ≤ 1000000) (hT : IsSn base w b g k) :
  Calls Tryz.prog 172 #[pt b] w fun r w'=>r = .returned (.tuple #[]) ∧ IsSn base w' b g k.fin ∧ Keep (· = b) w w':=by
 have hfin : k.fin = { k with passes:=k.passes + 1,read:=0,turned:=false }:=by unfold Sn.fin; rw [if_neg (by rintro ⟨h,h'⟩; rw [h4.2] at h'; cases h')]
 rw [hfin]
 clear hfin
 obtain ⟨c0,c1,c2,c3,c4,c5,c6,c7,c8,c9,c10⟩:=hT.at
 have f3:=hT.obj.fz 6
 have f5:=hT.obj.fz 8
 have f6:=hT.obj.fz 9
 have f7:=hT.obj.fz 10
 have e1 : wrap64 (k.passes + 1) = k.passes + 1:=by unfold wrap64; omega
 have q1 : decide ((1 : Int) < k.passes + 1) = true:=decide_eq_true (by omega)
 rw [h4.2] at c8
 have HT:=zI2 hT
 clear h4 hT
 go_enter Tryz.func172,Tryz.ntmps172
 go_wp2
 go_end0
 have h1:=HT.out.set 9 (.int .i64 (k.passes + 1)) (k' := { k with passes:=k.passes + 1 }) rfl rfl rfl
 have h2:=h1.set 6 (.int .i64 0) (k' := { k with passes:=k.passes + 1,read:=0 }) rfl rfl rfl
 exact ⟨rfl,h2.set 8 (.bool false) (k' := { k with passes:=k.passes + 1,read:=0,turned:=false }) rfl rfl rfl,(((Keep.refl _ _).own 9 _).own 6 _).own 8 _⟩
theorem zIk (h4 : 0 < k.passes ∧ k.turned = false) (p0 : 0 ≤ k.passes) (p1 : k.passes ≤ 1000000) (hT : IsSn base w b g k) :
  Calls Tryz.prog 172 #[pt b] w fun r w'=>r = .returned (.tuple #[]) ∧ IsSn base w' b g k.fin ∧ Keep (· = b) w w':=by
 have hfin : k.fin = { k with passes:=k.passes + 1,ph:=1,read:=0,turned:=false }:=by unfold Sn.fin; rw [if_pos ⟨by omega,h4.2⟩]
 rw [hfin]
 clear hfin
 obtain ⟨c0,c1,c2,c3,c4,c5,c6,c7,c8,c9,c10⟩:=hT.at
 have f3:=hT.obj.fz 6
 have f5:=hT.obj.fz 8
 have f6:=hT.obj.fz 9
 have f7:=hT.obj.fz 10
 have e1 : wrap64 (k.passes + 1) = k.passes + 1:=by unfold wrap64; omega
 have q1 : decide ((1 : Int) < k.passes + 1) = true:=decide_eq_true (by omega)
 rw [h4.2] at c8
 have HT:=zI2 hT
 clear h4 hT
 go_enter Tryz.func172,Tryz.ntmps172
 go_wp2
 go_end0
 have h1:=HT.out.set 9 (.int .i64 (k.passes + 1)) (k' := { k with passes:=k.passes + 1 }) rfl rfl rfl
 have h2:=h1.set 10 (.int .i64 1) (k' := { k with passes:=k.passes + 1,ph:=1 }) rfl rfl rfl
 have h3:=h2.set 6 (.int .i64 0) (k' := { k with passes:=k.passes + 1,ph:=1,read:=0 }) rfl rfl rfl
 exact ⟨rfl,h3.set 8 (.bool false) (k' := { k with passes:=k.passes + 1,ph:=1,read:=0,turned:=false }) rfl rfl rfl,((((Keep.refl _ _).own 9 _).own 10 _).own 6 _).own 8 _⟩
theorem zBi (p0 : 0 ≤ k.passes) (p1 : k.passes ≤ 1000000) (hT : IsSn base w b g k) :
  Calls Tryz.prog 172 #[pt b] w fun r w'=>r = .returned (.tuple #[]) ∧ IsSn base w' b g k.fin ∧ Keep (· = b) w w':=by
 by_cases h0 : k.passes = 0
 ·exact zIP base w b g k h0 p0 p1 hT
 ·cases ht : k.turned with
  | true=>exact zIW base w b g k ⟨by omega,ht⟩ p0 p1 hT
  | false=>exact zIk base w b g k ⟨by omega,ht⟩ p0 p1 hT
theorem zD9 (hp : k.ph ≠ 0) (hT : IsSn base w b g k) (hM : IsMem base w p c v C L) (ha : ∀ i,(i = b ∨ i = g) → ¬ Foot p c v i) (hb : base ≤ w.heap.size) :
  Calls Tryz.prog 154 #[pt b,pt p] w (SnPost base w b g p c v k C L (.returned (i64 k.ph))):=by
 have qp : (k.ph != 0) = true:=by simp [hp]
 have HS:=zI2 (Does.refl (B:=fun i=>i = b ∨ i = g) hM ha hb)
 have HT:=zI2 hT
 obtain ⟨c0,c1,c2,c3,c4,c5,c6,c7,c8,c9,c10⟩:=hT.at
 clear hT hM ha hp
 go_enter Tryz.func154,Tryz.ntmps154
 go_wp2
 go_ret
 exact ⟨rfl,_,HS.out,HT.out⟩
theorem zHs (x y : Int) (j : Nat) (h4 : x = y ∧ k.read + 1 ≠ (k.N : Int)) (hp : k.ph = 0) (hk : k.Ok n C) (hj : (k.start + k.read) % (k.N : Int) = (j : Int)) (hx : C[j]? = some x) (hy : k.X[j]? = some y) (hT : IsSn base w b g k) (hM : IsMem base w p c v C L) (ha : ∀ i,(i = b ∨ i = g) → ¬ Foot p c v i) (hb : base ≤ w.heap.size) (hL : L.length < 1000000000) :
  Calls Tryz.prog 154 #[pt b,pt p] w (SnPost base w b g p c v ({ k with read:=k.read + 1 }) C (L ++ [⟨k.who,0,j,x,x,true⟩]) (.returned (i64 ({ k with read:=k.read + 1 }).ph))):=by
 obtain ⟨hl,hN,hlen,hX,s0,s1,r0,r1,p0,p1⟩:=hk
 subst hN
 have hn1:=hl.n1; have hn2:=hl.n2; have ht1:=hl.t1
 have hjN : (j : Int) < (k.N : Int):=by rw [← hj]; exact Int.emod_lt_of_pos _ (by omega)
 have hn0 : ¬ k.N = 0:=by omega
 have hjt : (k.start + k.read).tmod (k.N : Int) = (j : Int):=by rw [Int.tmod_eq_emod_of_nonneg (by omega)]; exact hj
 have e1 : IntKind.i64.wrap (k.start + k.read) = k.start + k.read:=IntWalk.i64_in _ (by omega)
 have e2 : wrap64 (k.read + 1) = k.read + 1:=by unfold wrap64; omega
 have qp : (k.ph != 0) = false:=by simp [hp]
 have HS:=zI2 (Does.refl (B:=fun i=>i = b ∨ i = g) hM ha hb)
 have HX:=zI2 hx
 have HY:=zI2 hy
 have hA : AtSn w.drew b g k:=hT.drew.at
 have HT:=zI2 hT
 have qx : (x != y) = false:=by simp [h4.1]
 have qr : (k.read + 1 == (k.N : Int)) = false:=by simp [h4.2]
 clear h4
 have HEND:=zI2 (fun W (k1 : Sn) (h1 : k1.passes = k.passes) (hW : IsSn base W b g k1)=>zBi base W b g k1 (by omega) (by omega) hW)
 obtain ⟨c0,c1,c2,c3,c4,c5,c6,c7,c8,c9,c10⟩:=hT.at
 clear hx hy hT hM ha hj hp hX hlen p0 p1
 go_enter Tryz.func154,Tryz.ntmps154
 go_wp2_with fail
 clear c0 c1 c2 c3 c4 c5 c6 c7 c8 c9 c10
 refine zAF ((fun w'=>AtSn w' b g k)) ((0,true) :: (1,true) :: (2,true) :: (3,true) :: (4,true) :: (5,true) :: (6,true) :: (7,true) :: (8,true) :: (9,true) :: (10,true) :: (11,true) :: (12,true) :: (13,true) :: (14,true) :: (15,true) :: []) (by kernel_rfl) (by kernel_rfl) (by kernel_rfl) (by decide) (fun _ _ _ _ _ h=>h) (hA) ?_
 repeat ((first | (refine zAC (v := ?_) rfl ?_ ?_ ?_; rotate_left 1; rfl; focus (rintro wS ⟨c0,c1,c2,c3,c4,c5,c6,c7,c8,c9,c10⟩; go_simp <;> with_reducible rfl)) | (refine zAD rfl ?_ ?_; rfl)); try simp only [Act.put,qset])
 refine zAI ?_
 replace HT:=zI2 HT.out.drew
 replace HS:=zI2 HS.out.drew
 clear hA
 (try rw [hjt])
 obtain ⟨c0,c1,c2,c3,c4,c5,c6,c7,c8,c9,c10⟩:=HT.out.at
 go_wp2_with fail
 clear c0 c1 c2 c3 c4 c5 c6 c7 c8 c9 c10
 refine zAF ((fun w'=>AtHead w' b k.t k.s k.so k.d k.who k.start)) ((0,true) :: (1,true) :: (2,true) :: (3,true) :: (4,true) :: (5,true) :: (6,true) :: (7,true) :: (8,true) :: (9,true) :: (10,false) :: (11,false) :: (12,true) :: []) (by kernel_rfl) (by kernel_rfl) (by kernel_rfl) (by decide) (fun _ _ _ _ _ h=>h) (HT.out.drew.head) ?_
 repeat ((first | (refine zAC (v := ?_) rfl ?_ ?_ ?_; rotate_left 1; rfl; focus (rintro wS ⟨c0,c1,c2,c3,c4,c5⟩; go_simp <;> with_reducible rfl)) | (refine zAD rfl ?_ ?_; rfl)); try simp only [Act.put,qset])
 refine zAG rfl (fun K hK=>?_)
 go_simp
 go_at_call 68
 refine (zAU _ _ _ _ _ _).mono ?_
 rintro r w1 ⟨rfl,hb1⟩
 (try go_wp2_with fail)
 replace HT:=zI2 (HT.out.drew.later hb1)
 replace HS:=zI2 (HS.out.drew.later hb1)
 clear hb1
 refine hK.out _ _ (HT.out.head) (fun _=>?_)
 (try simp only [Act.put,qset])
 clear hK K
 repeat ((first | (refine zAC (v := ?_) rfl ?_ ?_ ?_; rotate_left 1; rfl; focus (rintro wS ⟨c0,c1,c2,c3,c4,c5⟩; go_simp <;> with_reducible rfl)) | (refine zAD rfl ?_ ?_; rfl)); try simp only [Act.put,qset])
 refine zAG rfl (fun K hK=>?_)
 go_simp
 go_at_call 164
 refine (zAu base _ p c _ _ _ k.who j x HS.out.mem HX.out HS.out.size hL).mono ?_
 rintro r w2 ⟨rfl,v2,hT2⟩
 (try go_wp2_with fail)
 have hlt1:=HT.out.obj.lt
 have hlt2:=HT.out.gb.2
 replace HT:=zI2 (HT.out.keep hT2.keep (HS.out.apart b (.inl rfl)) (HS.out.apart g (.inr rfl)))
 replace HS:=zI2 (HS.out.cells (fun i hi=>hi.elim (fun e=>e ▸ hlt1) (fun e=>e ▸ hlt2)) hT2)
 clear hT2 hlt1 hlt2
 refine hK.out _ _ (HT.out.head) (fun _=>?_)
 (try simp only [Act.put,qset])
 clear hK K
 repeat ((first | (refine zAC (v := ?_) rfl ?_ ?_ ?_; rotate_left 1; rfl; focus (rintro wS ⟨c0,c1,c2,c3,c4,c5⟩; go_simp <;> with_reducible rfl)) | (refine zAD rfl ?_ ?_; rfl)); try simp only [Act.put,qset])
 refine zAI ?_
 obtain ⟨c0,c1,c2,c3,c4,c5,c6,c7,c8,c9,c10⟩:=HT.out.at
 have cx:=HT.out.cell HY.out
 have fx:=HT.out.row.frozenAt j
 have f6:=HT.out.obj.fz 6
 have f8:=HT.out.obj.fz 8
 have hne:=HT.out.ne
 go_wp2_with fail
 have HT3:=zI2 (HT.out.set 6 (.int .i64 (k.read + 1)) (k' := { k with read:=k.read + 1 }) rfl rfl rfl)
 have HS3:=zI2 (HS.out.own ((Keep.refl (fun i=>i = b ∨ i = g) _).setCell ⟨b,6,none⟩ (.inl rfl) (.int .i64 (k.read + 1))))
 clear c0 c1 c2 c3 c4 c5 c6 c7 c8 c9 c10 cx fx f6 f8
 refine zAF ((fun w'=>AtSn w' b g { k with read:=k.read + 1 })) ((0,true) :: (1,true) :: (2,true) :: (3,true) :: (4,true) :: (5,true) :: (6,true) :: (7,true) :: (8,true) :: (9,true) :: []) (by kernel_rfl) (by kernel_rfl) (by kernel_rfl) (by decide) (fun _ _ _ _ _ h=>h) (HT3.out.drew.at) ?_
 repeat ((first | (refine zAC (v := ?_) rfl ?_ ?_ ?_; rotate_left 1; rfl; focus (rintro wS ⟨d0,d1,d2,d3,d4,d5,d6,d7,d8,d9,d10⟩; go_simp <;> with_reducible rfl)) | (refine zAD rfl ?_ ?_; rfl)); try simp only [Act.put,qset])
 refine zAI ?_
 replace HT3:=zI2 HT3.out.drew
 replace HS3:=zI2 HS3.out.drew
 obtain ⟨c0,c1,c2,c3,c4,c5,c6,c7,c8,c9,c10⟩:=HT3.out.at
 go_wp2
 go_ret
 exact ⟨rfl,_,HS3.out,HT3.out⟩
theorem zHt (x y : Int) (j : Nat) (h4 : x ≠ y ∧ k.read + 1 ≠ (k.N : Int)) (hp : k.ph = 0) (hk : k.Ok n C) (hj : (k.start + k.read) % (k.N : Int) = (j : Int)) (hx : C[j]? = some x) (hy : k.X[j]? = some y) (hT : IsSn base w b g k) (hM : IsMem base w p c v C L) (ha : ∀ i,(i = b ∨ i = g) → ¬ Foot p c v i) (hb : base ≤ w.heap.size) (hL : L.length < 1000000000) :
  Calls Tryz.prog 154 #[pt b,pt p] w (SnPost base w b g p c v ({ k with X:=k.X.set j x,turned:=true,read:=k.read + 1 }) C (L ++ [⟨k.who,0,j,x,x,true⟩]) (.returned (i64 ({ k with X:=k.X.set j x,turned:=true,read:=k.read + 1 }).ph))):=by
 obtain ⟨hl,hN,hlen,hX,s0,s1,r0,r1,p0,p1⟩:=hk
 subst hN
 have hn1:=hl.n1; have hn2:=hl.n2; have ht1:=hl.t1
 have hjN : (j : Int) < (k.N : Int):=by rw [← hj]; exact Int.emod_lt_of_pos _ (by omega)
 have hn0 : ¬ k.N = 0:=by omega
 have hjt : (k.start + k.read).tmod (k.N : Int) = (j : Int):=by rw [Int.tmod_eq_emod_of_nonneg (by omega)]; exact hj
 have e1 : IntKind.i64.wrap (k.start + k.read) = k.start + k.read:=IntWalk.i64_in _ (by omega)
 have e2 : wrap64 (k.read + 1) = k.read + 1:=by unfold wrap64; omega
 have qp : (k.ph != 0) = false:=by simp [hp]
 have HS:=zI2 (Does.refl (B:=fun i=>i = b ∨ i = g) hM ha hb)
 have HX:=zI2 hx
 have HY:=zI2 hy
 have hA : AtSn w.drew b g k:=hT.drew.at
 have HT:=zI2 hT
 have qx : (x != y) = true:=by simp [h4.1]
 have qr : (k.read + 1 == (k.N : Int)) = false:=by simp [h4.2]
 clear h4
 have HEND:=zI2 (fun W (k1 : Sn) (h1 : k1.passes = k.passes) (hW : IsSn base W b g k1)=>zBi base W b g k1 (by omega) (by omega) hW)
 obtain ⟨c0,c1,c2,c3,c4,c5,c6,c7,c8,c9,c10⟩:=hT.at
 clear hx hy hT hM ha hj hp hX hlen p0 p1
 go_enter Tryz.func154,Tryz.ntmps154
 go_wp2_with fail
 clear c0 c1 c2 c3 c4 c5 c6 c7 c8 c9 c10
 refine zAF ((fun w'=>AtSn w' b g k)) ((0,true) :: (1,true) :: (2,true) :: (3,true) :: (4,true) :: (5,true) :: (6,true) :: (7,true) :: (8,true) :: (9,true) :: (10,true) :: (11,true) :: (12,true) :: (13,true) :: (14,true) :: (15,true) :: []) (by kernel_rfl) (by kernel_rfl) (by kernel_rfl) (by decide) (fun _ _ _ _ _ h=>h) (hA) ?_
 repeat ((first | (refine zAC (v := ?_) rfl ?_ ?_ ?_; rotate_left 1; rfl; focus (rintro wS ⟨c0,c1,c2,c3,c4,c5,c6,c7,c8,c9,c10⟩; go_simp <;> with_reducible rfl)) | (refine zAD rfl ?_ ?_; rfl)); try simp only [Act.put,qset])
 refine zAI ?_
 replace HT:=zI2 HT.out.drew
 replace HS:=zI2 HS.out.drew
 clear hA
 (try rw [hjt])
 obtain ⟨c0,c1,c2,c3,c4,c5,c6,c7,c8,c9,c10⟩:=HT.out.at
 go_wp2_with fail
 clear c0 c1 c2 c3 c4 c5 c6 c7 c8 c9 c10
 refine zAF ((fun w'=>AtHead w' b k.t k.s k.so k.d k.who k.start)) ((0,true) :: (1,true) :: (2,true) :: (3,true) :: (4,true) :: (5,true) :: (6,true) :: (7,true) :: (8,true) :: (9,true) :: (10,false) :: (11,false) :: (12,true) :: []) (by kernel_rfl) (by kernel_rfl) (by kernel_rfl) (by decide) (fun _ _ _ _ _ h=>h) (HT.out.drew.head) ?_
 repeat ((first | (refine zAC (v := ?_) rfl ?_ ?_ ?_; rotate_left 1; rfl; focus (rintro wS ⟨c0,c1,c2,c3,c4,c5⟩; go_simp <;> with_reducible rfl)) | (refine zAD rfl ?_ ?_; rfl)); try simp only [Act.put,qset])
 refine zAG rfl (fun K hK=>?_)
 go_simp
 go_at_call 68
 refine (zAU _ _ _ _ _ _).mono ?_
 rintro r w1 ⟨rfl,hb1⟩
 (try go_wp2_with fail)
 replace HT:=zI2 (HT.out.drew.later hb1)
 replace HS:=zI2 (HS.out.drew.later hb1)
 clear hb1
 refine hK.out _ _ (HT.out.head) (fun _=>?_)
 (try simp only [Act.put,qset])
 clear hK K
 repeat ((first | (refine zAC (v := ?_) rfl ?_ ?_ ?_; rotate_left 1; rfl; focus (rintro wS ⟨c0,c1,c2,c3,c4,c5⟩; go_simp <;> with_reducible rfl)) | (refine zAD rfl ?_ ?_; rfl)); try simp only [Act.put,qset])
 refine zAG rfl (fun K hK=>?_)
 go_simp
 go_at_call 164
 refine (zAu base _ p c _ _ _ k.who j x HS.out.mem HX.out HS.out.size hL).mono ?_
 rintro r w2 ⟨rfl,v2,hT2⟩
 (try go_wp2_with fail)
 have hlt1:=HT.out.obj.lt
 have hlt2:=HT.out.gb.2
 replace HT:=zI2 (HT.out.keep hT2.keep (HS.out.apart b (.inl rfl)) (HS.out.apart g (.inr rfl)))
 replace HS:=zI2 (HS.out.cells (fun i hi=>hi.elim (fun e=>e ▸ hlt1) (fun e=>e ▸ hlt2)) hT2)
 clear hT2 hlt1 hlt2
 refine hK.out _ _ (HT.out.head) (fun _=>?_)
 (try simp only [Act.put,qset])
 clear hK K
 repeat ((first | (refine zAC (v := ?_) rfl ?_ ?_ ?_; rotate_left 1; rfl; focus (rintro wS ⟨c0,c1,c2,c3,c4,c5⟩; go_simp <;> with_reducible rfl)) | (refine zAD rfl ?_ ?_; rfl)); try simp only [Act.put,qset])
 refine zAI ?_
 obtain ⟨c0,c1,c2,c3,c4,c5,c6,c7,c8,c9,c10⟩:=HT.out.at
 have cx:=HT.out.cell HY.out
 have fx:=HT.out.row.frozenAt j
 have f6:=HT.out.obj.fz 6
 have f8:=HT.out.obj.fz 8
 have hne:=HT.out.ne
 go_wp2_with fail
 have HT3:=zI2 (((HT.out.word j x).set 8 (.bool true) (k' := { k with X:=k.X.set j x,turned:=true }) rfl rfl rfl).set 6 (.int .i64 (k.read + 1)) (k' := { k with X:=k.X.set j x,turned:=true,read:=k.read + 1 }) rfl rfl rfl)
 have HS3:=zI2 (HS.out.own ((((Keep.refl (fun i=>i = b ∨ i = g) _).setCell ⟨g,j,none⟩ (.inr rfl) (u64 x)).setCell ⟨b,8,none⟩ (.inl rfl) (.bool true)).setCell ⟨b,6,none⟩ (.inl rfl) (.int .i64 (k.read + 1))))
 clear c0 c1 c2 c3 c4 c5 c6 c7 c8 c9 c10 cx fx f6 f8
 refine zAF ((fun w'=>AtSn w' b g { k with X:=k.X.set j x,turned:=true,read:=k.read + 1 })) ((0,true) :: (1,true) :: (2,true) :: (3,true) :: (4,true) :: (5,true) :: (6,true) :: (7,true) :: (8,true) :: (9,true) :: []) (by kernel_rfl) (by kernel_rfl) (by kernel_rfl) (by decide) (fun _ _ _ _ _ h=>h) (HT3.out.drew.at) ?_
 repeat ((first | (refine zAC (v := ?_) rfl ?_ ?_ ?_; rotate_left 1; rfl; focus (rintro wS ⟨d0,d1,d2,d3,d4,d5,d6,d7,d8,d9,d10⟩; go_simp <;> with_reducible rfl)) | (refine zAD rfl ?_ ?_; rfl)); try simp only [Act.put,qset])
 refine zAI ?_
 replace HT3:=zI2 HT3.out.drew
 replace HS3:=zI2 HS3.out.drew
 obtain ⟨c0,c1,c2,c3,c4,c5,c6,c7,c8,c9,c10⟩:=HT3.out.at
 go_wp2
 go_ret
 exact ⟨rfl,_,HS3.out,HT3.out⟩
theorem zH0 (x y : Int) (j : Nat) (h4 : x = y ∧ k.read + 1 = (k.N : Int)) (hp : k.ph = 0) (hk : k.Ok n C) (hj : (k.start + k.read) % (k.N : Int) = (j : Int)) (hx : C[j]? = some x) (hy : k.X[j]? = some y) (hT : IsSn base w b g k) (hM : IsMem base w p c v C L) (ha : ∀ i,(i = b ∨ i = g) → ¬ Foot p c v i) (hb : base ≤ w.heap.size) (hL : L.length < 1000000000) :
  Calls Tryz.prog 154 #[pt b,pt p] w (SnPost base w b g p c v (Sn.fin { k with read:=k.read + 1 }) C (L ++ [⟨k.who,0,j,x,x,true⟩]) (.returned (i64 (Sn.fin { k with read:=k.read + 1 }).ph))):=by
 obtain ⟨hl,hN,hlen,hX,s0,s1,r0,r1,p0,p1⟩:=hk
 subst hN
 have hn1:=hl.n1; have hn2:=hl.n2; have ht1:=hl.t1
 have hjN : (j : Int) < (k.N : Int):=by rw [← hj]; exact Int.emod_lt_of_pos _ (by omega)
 have hn0 : ¬ k.N = 0:=by omega
 have hjt : (k.start + k.read).tmod (k.N : Int) = (j : Int):=by rw [Int.tmod_eq_emod_of_nonneg (by omega)]; exact hj
 have e1 : IntKind.i64.wrap (k.start + k.read) = k.start + k.read:=IntWalk.i64_in _ (by omega)
 have e2 : wrap64 (k.read + 1) = k.read + 1:=by unfold wrap64; omega
 have qp : (k.ph != 0) = false:=by simp [hp]
 have HS:=zI2 (Does.refl (B:=fun i=>i = b ∨ i = g) hM ha hb)
 have HX:=zI2 hx
 have HY:=zI2 hy
 have hA : AtSn w.drew b g k:=hT.drew.at
 have HT:=zI2 hT
 have qx : (x != y) = false:=by simp [h4.1]
 have qr : (k.read + 1 == (k.N : Int)) = true:=by simp [h4.2]
 clear h4
 have HEND:=zI2 (fun W (k1 : Sn) (h1 : k1.passes = k.passes) (hW : IsSn base W b g k1)=>zBi base W b g k1 (by omega) (by omega) hW)
 obtain ⟨c0,c1,c2,c3,c4,c5,c6,c7,c8,c9,c10⟩:=hT.at
 clear hx hy hT hM ha hj hp hX hlen p0 p1
 go_enter Tryz.func154,Tryz.ntmps154
 go_wp2_with fail
 clear c0 c1 c2 c3 c4 c5 c6 c7 c8 c9 c10
 refine zAF ((fun w'=>AtSn w' b g k)) ((0,true) :: (1,true) :: (2,true) :: (3,true) :: (4,true) :: (5,true) :: (6,true) :: (7,true) :: (8,true) :: (9,true) :: (10,true) :: (11,true) :: (12,true) :: (13,true) :: (14,true) :: (15,true) :: []) (by kernel_rfl) (by kernel_rfl) (by kernel_rfl) (by decide) (fun _ _ _ _ _ h=>h) (hA) ?_
 repeat ((first | (refine zAC (v := ?_) rfl ?_ ?_ ?_; rotate_left 1; rfl; focus (rintro wS ⟨c0,c1,c2,c3,c4,c5,c6,c7,c8,c9,c10⟩; go_simp <;> with_reducible rfl)) | (refine zAD rfl ?_ ?_; rfl)); try simp only [Act.put,qset])
 refine zAI ?_
 replace HT:=zI2 HT.out.drew
 replace HS:=zI2 HS.out.drew
 clear hA
 (try rw [hjt])
 obtain ⟨c0,c1,c2,c3,c4,c5,c6,c7,c8,c9,c10⟩:=HT.out.at
 go_wp2_with fail
 clear c0 c1 c2 c3 c4 c5 c6 c7 c8 c9 c10
 refine zAF ((fun w'=>AtHead w' b k.t k.s k.so k.d k.who k.start)) ((0,true) :: (1,true) :: (2,true) :: (3,true) :: (4,true) :: (5,true) :: (6,true) :: (7,true) :: (8,true) :: (9,true) :: (10,false) :: (11,false) :: (12,true) :: []) (by kernel_rfl) (by kernel_rfl) (by kernel_rfl) (by decide) (fun _ _ _ _ _ h=>h) (HT.out.drew.head) ?_
 repeat ((first | (refine zAC (v := ?_) rfl ?_ ?_ ?_; rotate_left 1; rfl; focus (rintro wS ⟨c0,c1,c2,c3,c4,c5⟩; go_simp <;> with_reducible rfl)) | (refine zAD rfl ?_ ?_; rfl)); try simp only [Act.put,qset])
 refine zAG rfl (fun K hK=>?_)
 go_simp
 go_at_call 68
 refine (zAU _ _ _ _ _ _).mono ?_
 rintro r w1 ⟨rfl,hb1⟩
 (try go_wp2_with fail)
 replace HT:=zI2 (HT.out.drew.later hb1)
 replace HS:=zI2 (HS.out.drew.later hb1)
 clear hb1
 refine hK.out _ _ (HT.out.head) (fun _=>?_)
 (try simp only [Act.put,qset])
 clear hK K
 repeat ((first | (refine zAC (v := ?_) rfl ?_ ?_ ?_; rotate_left 1; rfl; focus (rintro wS ⟨c0,c1,c2,c3,c4,c5⟩; go_simp <;> with_reducible rfl)) | (refine zAD rfl ?_ ?_; rfl)); try simp only [Act.put,qset])
 refine zAG rfl (fun K hK=>?_)
 go_simp
 go_at_call 164
 refine (zAu base _ p c _ _ _ k.who j x HS.out.mem HX.out HS.out.size hL).mono ?_
 rintro r w2 ⟨rfl,v2,hT2⟩
 (try go_wp2_with fail)
 have hlt1:=HT.out.obj.lt
 have hlt2:=HT.out.gb.2
 replace HT:=zI2 (HT.out.keep hT2.keep (HS.out.apart b (.inl rfl)) (HS.out.apart g (.inr rfl)))
 replace HS:=zI2 (HS.out.cells (fun i hi=>hi.elim (fun e=>e ▸ hlt1) (fun e=>e ▸ hlt2)) hT2)
 clear hT2 hlt1 hlt2
 refine hK.out _ _ (HT.out.head) (fun _=>?_)
 (try simp only [Act.put,qset])
 clear hK K
 repeat ((first | (refine zAC (v := ?_) rfl ?_ ?_ ?_; rotate_left 1; rfl; focus (rintro wS ⟨c0,c1,c2,c3,c4,c5⟩; go_simp <;> with_reducible rfl)) | (refine zAD rfl ?_ ?_; rfl)); try simp only [Act.put,qset])
 refine zAI ?_
 obtain ⟨c0,c1,c2,c3,c4,c5,c6,c7,c8,c9,c10⟩:=HT.out.at
 have cx:=HT.out.cell HY.out
 have fx:=HT.out.row.frozenAt j
 have f6:=HT.out.obj.fz 6
 have f8:=HT.out.obj.fz 8
 have hne:=HT.out.ne
 go_wp2_with fail
 have HT3:=zI2 (HT.out.set 6 (.int .i64 (k.read + 1)) (k' := { k with read:=k.read + 1 }) rfl rfl rfl)
 have HS3:=zI2 (HS.out.own ((Keep.refl (fun i=>i = b ∨ i = g) _).setCell ⟨b,6,none⟩ (.inl rfl) (.int .i64 (k.read + 1))))
 clear c0 c1 c2 c3 c4 c5 c6 c7 c8 c9 c10 cx fx f6 f8
 refine zAF ((fun w'=>AtSn w' b g { k with read:=k.read + 1 })) ((0,true) :: (1,true) :: (2,true) :: (3,true) :: (4,true) :: (5,true) :: (6,true) :: (7,true) :: (8,true) :: (9,true) :: []) (by kernel_rfl) (by kernel_rfl) (by kernel_rfl) (by decide) (fun _ _ _ _ _ h=>h) (HT3.out.drew.at) ?_
 repeat ((first | (refine zAC (v := ?_) rfl ?_ ?_ ?_; rotate_left 1; rfl; focus (rintro wS ⟨d0,d1,d2,d3,d4,d5,d6,d7,d8,d9,d10⟩; go_simp <;> with_reducible rfl)) | (refine zAD rfl ?_ ?_; rfl)); try simp only [Act.put,qset])
 refine zAI ?_
 replace HT3:=zI2 HT3.out.drew
 replace HS3:=zI2 HS3.out.drew
 go_wp2_with fail
 refine (HEND.out _ { k with read:=k.read + 1 } rfl HT3.out).mono ?_
 rintro r w5 ⟨rfl,hT5,hK5⟩
 have HS5:=zI2 (HS3.out.own (hK5.mono fun i h=>.inl h))
 have HT5:=zI2 hT5
 clear hT5 hK5
 obtain ⟨c0,c1,c2,c3,c4,c5,c6,c7,c8,c9,c10⟩:=HT5.out.at
 go_wp2
 go_ret
 exact ⟨rfl,_,HS5.out,HT5.out⟩
theorem zHM (x y : Int) (j : Nat) (h4 : x ≠ y ∧ k.read + 1 = (k.N : Int)) (hp : k.ph = 0) (hk : k.Ok n C) (hj : (k.start + k.read) % (k.N : Int) = (j : Int)) (hx : C[j]? = some x) (hy : k.X[j]? = some y) (hT : IsSn base w b g k) (hM : IsMem base w p c v C L) (ha : ∀ i,(i = b ∨ i = g) → ¬ Foot p c v i) (hb : base ≤ w.heap.size) (hL : L.length < 1000000000) :
  Calls Tryz.prog 154 #[pt b,pt p] w (SnPost base w b g p c v (Sn.fin { k with X:=k.X.set j x,turned:=true,read:=k.read + 1 }) C (L ++ [⟨k.who,0,j,x,x,true⟩]) (.returned (i64 (Sn.fin { k with X:=k.X.set j x,turned:=true,read:=k.read + 1 }).ph))):=by
 obtain ⟨hl,hN,hlen,hX,s0,s1,r0,r1,p0,p1⟩:=hk
 subst hN
 have hn1:=hl.n1; have hn2:=hl.n2; have ht1:=hl.t1
 have hjN : (j : Int) < (k.N : Int):=by rw [← hj]; exact Int.emod_lt_of_pos _ (by omega)
 have hn0 : ¬ k.N = 0:=by omega
 have hjt : (k.start + k.read).tmod (k.N : Int) = (j : Int):=by rw [Int.tmod_eq_emod_of_nonneg (by omega)]; exact hj
 have e1 : IntKind.i64.wrap (k.start + k.read) = k.start + k.read:=IntWalk.i64_in _ (by omega)
 have e2 : wrap64 (k.read + 1) = k.read + 1:=by unfold wrap64; omega
 have qp : (k.ph != 0) = false:=by simp [hp]
 have HS:=zI2 (Does.refl (B:=fun i=>i = b ∨ i = g) hM ha hb)
 have HX:=zI2 hx
 have HY:=zI2 hy
 have hA : AtSn w.drew b g k:=hT.drew.at
 have HT:=zI2 hT
 have qx : (x != y) = true:=by simp [h4.1]
 have qr : (k.read + 1 == (k.N : Int)) = true:=by simp [h4.2]
 clear h4
 have HEND:=zI2 (fun W (k1 : Sn) (h1 : k1.passes = k.passes) (hW : IsSn base W b g k1)=>zBi base W b g k1 (by omega) (by omega) hW)
 obtain ⟨c0,c1,c2,c3,c4,c5,c6,c7,c8,c9,c10⟩:=hT.at
 clear hx hy hT hM ha hj hp hX hlen p0 p1
 go_enter Tryz.func154,Tryz.ntmps154
 go_wp2_with fail
 clear c0 c1 c2 c3 c4 c5 c6 c7 c8 c9 c10
 refine zAF ((fun w'=>AtSn w' b g k)) ((0,true) :: (1,true) :: (2,true) :: (3,true) :: (4,true) :: (5,true) :: (6,true) :: (7,true) :: (8,true) :: (9,true) :: (10,true) :: (11,true) :: (12,true) :: (13,true) :: (14,true) :: (15,true) :: []) (by kernel_rfl) (by kernel_rfl) (by kernel_rfl) (by decide) (fun _ _ _ _ _ h=>h) (hA) ?_
 repeat ((first | (refine zAC (v := ?_) rfl ?_ ?_ ?_; rotate_left 1; rfl; focus (rintro wS ⟨c0,c1,c2,c3,c4,c5,c6,c7,c8,c9,c10⟩; go_simp <;> with_reducible rfl)) | (refine zAD rfl ?_ ?_; rfl)); try simp only [Act.put,qset])
 refine zAI ?_
 replace HT:=zI2 HT.out.drew
 replace HS:=zI2 HS.out.drew
 clear hA
 (try rw [hjt])
 obtain ⟨c0,c1,c2,c3,c4,c5,c6,c7,c8,c9,c10⟩:=HT.out.at
 go_wp2_with fail
 clear c0 c1 c2 c3 c4 c5 c6 c7 c8 c9 c10
 refine zAF ((fun w'=>AtHead w' b k.t k.s k.so k.d k.who k.start)) ((0,true) :: (1,true) :: (2,true) :: (3,true) :: (4,true) :: (5,true) :: (6,true) :: (7,true) :: (8,true) :: (9,true) :: (10,false) :: (11,false) :: (12,true) :: []) (by kernel_rfl) (by kernel_rfl) (by kernel_rfl) (by decide) (fun _ _ _ _ _ h=>h) (HT.out.drew.head) ?_
 repeat ((first | (refine zAC (v := ?_) rfl ?_ ?_ ?_; rotate_left 1; rfl; focus (rintro wS ⟨c0,c1,c2,c3,c4,c5⟩; go_simp <;> with_reducible rfl)) | (refine zAD rfl ?_ ?_; rfl)); try simp only [Act.put,qset])
 refine zAG rfl (fun K hK=>?_)
 go_simp
 go_at_call 68
 refine (zAU _ _ _ _ _ _).mono ?_
 rintro r w1 ⟨rfl,hb1⟩
 (try go_wp2_with fail)
 replace HT:=zI2 (HT.out.drew.later hb1)
 replace HS:=zI2 (HS.out.drew.later hb1)
 clear hb1
 refine hK.out _ _ (HT.out.head) (fun _=>?_)
 (try simp only [Act.put,qset])
 clear hK K
 repeat ((first | (refine zAC (v := ?_) rfl ?_ ?_ ?_; rotate_left 1; rfl; focus (rintro wS ⟨c0,c1,c2,c3,c4,c5⟩; go_simp <;> with_reducible rfl)) | (refine zAD rfl ?_ ?_; rfl)); try simp only [Act.put,qset])
 refine zAG rfl (fun K hK=>?_)
 go_simp
 go_at_call 164
 refine (zAu base _ p c _ _ _ k.who j x HS.out.mem HX.out HS.out.size hL).mono ?_
 rintro r w2 ⟨rfl,v2,hT2⟩
 (try go_wp2_with fail)
 have hlt1:=HT.out.obj.lt
 have hlt2:=HT.out.gb.2
 replace HT:=zI2 (HT.out.keep hT2.keep (HS.out.apart b (.inl rfl)) (HS.out.apart g (.inr rfl)))
 replace HS:=zI2 (HS.out.cells (fun i hi=>hi.elim (fun e=>e ▸ hlt1) (fun e=>e ▸ hlt2)) hT2)
 clear hT2 hlt1 hlt2
 refine hK.out _ _ (HT.out.head) (fun _=>?_)
 (try simp only [Act.put,qset])
 clear hK K
 repeat ((first | (refine zAC (v := ?_) rfl ?_ ?_ ?_; rotate_left 1; rfl; focus (rintro wS ⟨c0,c1,c2,c3,c4,c5⟩; go_simp <;> with_reducible rfl)) | (refine zAD rfl ?_ ?_; rfl)); try simp only [Act.put,qset])
 refine zAI ?_
 obtain ⟨c0,c1,c2,c3,c4,c5,c6,c7,c8,c9,c10⟩:=HT.out.at
 have cx:=HT.out.cell HY.out
 have fx:=HT.out.row.frozenAt j
 have f6:=HT.out.obj.fz 6
 have f8:=HT.out.obj.fz 8
 have hne:=HT.out.ne
 go_wp2_with fail
 have HT3:=zI2 (((HT.out.word j x).set 8 (.bool true) (k' := { k with X:=k.X.set j x,turned:=true }) rfl rfl rfl).set 6 (.int .i64 (k.read + 1)) (k' := { k with X:=k.X.set j x,turned:=true,read:=k.read + 1 }) rfl rfl rfl)
 have HS3:=zI2 (HS.out.own ((((Keep.refl (fun i=>i = b ∨ i = g) _).setCell ⟨g,j,none⟩ (.inr rfl) (u64 x)).setCell ⟨b,8,none⟩ (.inl rfl) (.bool true)).setCell ⟨b,6,none⟩ (.inl rfl) (.int .i64 (k.read + 1))))
 clear c0 c1 c2 c3 c4 c5 c6 c7 c8 c9 c10 cx fx f6 f8
 refine zAF ((fun w'=>AtSn w' b g { k with X:=k.X.set j x,turned:=true,read:=k.read + 1 })) ((0,true) :: (1,true) :: (2,true) :: (3,true) :: (4,true) :: (5,true) :: (6,true) :: (7,true) :: (8,true) :: (9,true) :: []) (by kernel_rfl) (by kernel_rfl) (by kernel_rfl) (by decide) (fun _ _ _ _ _ h=>h) (HT3.out.drew.at) ?_
 repeat ((first | (refine zAC (v := ?_) rfl ?_ ?_ ?_; rotate_left 1; rfl; focus (rintro wS ⟨d0,d1,d2,d3,d4,d5,d6,d7,d8,d9,d10⟩; go_simp <;> with_reducible rfl)) | (refine zAD rfl ?_ ?_; rfl)); try simp only [Act.put,qset])
 refine zAI ?_
 replace HT3:=zI2 HT3.out.drew
 replace HS3:=zI2 HS3.out.drew
 go_wp2_with fail
 refine (HEND.out _ { k with X:=k.X.set j x,turned:=true,read:=k.read + 1 } rfl HT3.out).mono ?_
 rintro r w5 ⟨rfl,hT5,hK5⟩
 have HS5:=zI2 (HS3.out.own (hK5.mono fun i h=>.inl h))
 have HT5:=zI2 hT5
 clear hT5 hK5
 obtain ⟨c0,c1,c2,c3,c4,c5,c6,c7,c8,c9,c10⟩:=HT5.out.at
 go_wp2
 go_ret
 exact ⟨rfl,_,HS5.out,HT5.out⟩
theorem zFU (hk : k.Ok n C) (hT : IsSn base w b g k) (hM : IsMem base w p c v C L) (ha : ∀ i,(i = b ∨ i = g) → ¬ Foot p c v i) (hb : base ≤ w.heap.size) (hL : L.length < 1000000000) :
  Calls Tryz.prog 154 #[pt b,pt p] w (SnPost base w b g p c v (k.step C) C (L ++ k.ev C) (.returned (i64 (k.step C).ph))):=by
 have hn1:=hk.lay.n1; have hn2:=hk.lay.n2; have ht1:=hk.lay.t1
 have hN:=hk.N; have hlen:=hk.len; have hX:=hk.X
 unfold Sn.step Sn.ev
 by_cases hp : k.ph = 0
 ·rw [if_pos hp,if_pos hp]
  have hm0:=Int.emod_nonneg (k.start + k.read) (show (k.N : Int) ≠ 0 by omega)
  have hm1:=Int.emod_lt_of_pos (k.start + k.read) (show (0 : Int) < (k.N : Int) by omega)
  have hj : (k.start + k.read) % (k.N : Int) = (k.slot : Int):=by unfold Sn.slot; omega
  have hjN : k.slot < k.N:=by omega
  have hx : C[k.slot]? = some (C.getD k.slot 0):=zBN (by omega)
  have hy : k.X[k.slot]? = some (k.X.getD k.slot 0):=zBN (by omega)
  generalize hxx : C.getD k.slot 0 = x at hx ⊢
  generalize hyy : k.X.getD k.slot 0 = y at hy
  have hput : k.put x = if x = y then { k with read:=k.read + 1 } else { k with X:=k.X.set k.slot x,turned:=true,read:=k.read + 1 }:=by
   unfold Sn.put
   rw [hyy]
   by_cases he : x = y
   ·rw [if_pos he,he,zDU hy]
    simp
   ·rw [if_neg he]
    simp [he]
  by_cases he : x = y
  ·rw [if_pos he] at hput
   rw [hput]
   by_cases hr : k.read + 1 = (k.N : Int)
   ·rw [if_pos hr]
    exact zH0 base w b g p c v C L k n x y k.slot ⟨he,hr⟩ hp hk hj hx hy hT hM ha hb hL
   ·rw [if_neg hr]
    exact zHs base w b g p c v C L k n x y k.slot ⟨he,hr⟩ hp hk hj hx hy hT hM ha hb hL
  ·rw [if_neg he] at hput
   rw [hput]
   by_cases hr : k.read + 1 = (k.N : Int)
   ·rw [if_pos hr]
    exact zHM base w b g p c v C L k n x y k.slot ⟨he,hr⟩ hp hk hj hx hy hT hM ha hb hL
   ·rw [if_neg hr]
    exact zHt base w b g p c v C L k n x y k.slot ⟨he,hr⟩ hp hk hj hx hy hT hM ha hb hL
 ·rw [if_neg hp,if_neg hp,List.append_nil]
  exact zD9 base w b g p c v C L k hp hT hM ha hb
end
end
section
structure SnAt (k : Sn) (N st r P : Nat) : Prop where
 hN : k.N = N
 start : k.start = (st : Int)
 read : k.read = (r : Int)
 passes : k.passes = (P : Int)
 X : k.X.length = N
 s1 : st < N
 r1 : r < N
def SnSame (k k' : Sn) : Prop:=k'.t = k.t ∧ k'.s = k.s ∧ k'.so = k.so ∧ k'.d = k.d ∧ k'.who = k.who
section
variable {k : Sn} {N st r P : Nat} {C : List Int}
theorem SnAt.slot (h : SnAt k N st r P) : k.slot = (st + r) % N:=by
 unfold Sn.slot
 rw [h.hN,h.start,h.read, ← Int.natCast_add, ← Int.natCast_emod,Int.toNat_natCast]
theorem SnAt.slot_lt (h : SnAt k N st r P) : k.slot < N:=by
 rw [h.slot]
 exact Nat.mod_lt _ (by have:=h.r1; omega)
theorem zHp {N st j : Nat} (hs : st < N) (hj : j < N) : ∃ q,q < N ∧ (st + q) % N = j:=by
 by_cases h : st ≤ j
 ·exact ⟨j - st,by omega,by rw [show st + (j - st) = j by omega,Nat.mod_eq_of_lt hj]⟩
 ·exact ⟨j + N - st,by omega,by rw [show st + (j + N - st) = j + N by omega,Nat.add_mod_right,Nat.mod_eq_of_lt hj]⟩
theorem SnAt.mid (h : SnAt k N st r P) (hp : k.ph = 0) (hr : r + 1 < N) :
  SnAt (k.step C) N st (r + 1) P ∧ (k.step C).ph = 0 ∧ SnSame k (k.step C) ∧ (k.step C).X = k.X.set k.slot (C.getD k.slot 0) ∧ (k.step C).turned = (k.turned || decide (C.getD k.slot 0 ≠ k.X.getD k.slot 0)):=by
 have hN:=h.hN
 have hr2:=h.read
 have e : k.step C = k.put (C.getD k.slot 0):=by
  unfold Sn.step
  rw [if_pos hp,if_neg (by omega)]
 rw [e]
 exact ⟨⟨h.hN,h.start,by show k.read + 1 = _; omega,h.passes,by show (k.X.set _ _).length = N; rw [List.length_set]; exact h.X,h.s1,hr⟩,hp,⟨rfl,rfl,rfl,rfl,rfl⟩,rfl,rfl⟩
theorem SnAt.last (h : SnAt k N st r P) (hp : k.ph = 0) (hr : r + 1 = N) :
  SnAt (k.step C) N st 0 (P + 1) ∧ SnSame k (k.step C) ∧ (k.step C).X = k.X.set k.slot (C.getD k.slot 0) ∧ (k.step C).turned = false ∧
   (k.step C).ph = if 1 ≤ P ∧ (k.turned || decide (C.getD k.slot 0 ≠ k.X.getD k.slot 0)) = false then 1 else 0:=by
 have hN:=h.hN
 have hr2:=h.read
 have hP:=h.passes
 have e : k.step C = (k.put (C.getD k.slot 0)).fin:=by
  unfold Sn.step
  rw [if_pos hp,if_pos (by omega)]
 rw [e]
 refine ⟨⟨h.hN,h.start,rfl,by show k.passes + 1 = _; omega,by show (k.X.set _ _).length = N; rw [List.length_set]; exact h.X,h.s1,by have:=h.r1; omega⟩,⟨rfl,rfl,rfl,rfl,rfl⟩,rfl,rfl, ?_⟩
 show (if 1 < k.passes + 1 ∧ (k.turned || decide (C.getD k.slot 0 ≠ k.X.getD k.slot 0)) = false then 1 else k.ph) = _
 rw [hp]
 by_cases hc : 1 ≤ P ∧ (k.turned || decide (C.getD k.slot 0 ≠ k.X.getD k.slot 0)) = false
 ·rw [if_pos hc,if_pos ⟨by omega,hc.2⟩]
 ·rw [if_neg hc,if_neg (fun h2=>hc ⟨by omega,h2.2⟩)]
structure QInv (k : Sn) (C : List Int) (N st r P B : Nat) (last : Int) : Prop where
 at' : SnAt k N st r P
 ph : k.ph = 0
 a : last ≠ P → ∀ q,q < r → k.X.getD ((st + q) % N) 0 = C.getD ((st + q) % N) 0
 b : 1 ≤ P → last < (P : Int) - 1 → (∀ j,j < N → k.X.getD j 0 = C.getD j 0) ∧ k.turned = false
 c1 : last = P → P + 1 ≤ B
 c2 : last ≠ P → (P = 0 ∨ last = (P : Int) - 1) → P ≤ B
 c3 : P ≤ B + 1
 l : last ≤ P
structure DInv (k : Sn) (C : List Int) (N st P B : Nat) (last : Int) : Prop where
 at' : SnAt k N st 0 P
 ph : k.ph = 1
 p : 2 ≤ P
 b : P ≤ B + 2
 x : last < (P : Int) - 1 → ∀ j,j < N → k.X.getD j 0 = C.getD j 0
theorem zII (t s so d who : Int) (N st : Nat) (hs : st < N) : SnAt (sn0 t s so d who st N) N st 0 0 :=
 ⟨rfl,rfl,rfl,rfl,List.length_replicate,hs,by omega⟩
theorem QInv.start (t s so d who : Int) (C : List Int) (N st B : Nat) (hs : st < N) : QInv (sn0 t s so d who st N) C N st 0 0 B (-1) :=
 ⟨zII t s so d who N st hs,rfl,fun _ q hq=>by omega,fun h=>by omega,fun h=>by simp at h,fun _ _=>by omega,by omega,by decide⟩
theorem QInv.store {last : Int} {B : Nat} (h : QInv k C N st r P B last) (C' : List Int) : QInv k C' N st r P (if last = (P : Int) then B else B + 2) P:=by
 have h1:=h.c1; have h3:=h.c3
 refine ⟨h.at',h.ph,fun e=>absurd rfl e,fun _ e=>by omega,fun _=>?_,fun e=>absurd rfl e, ?_,Int.le_refl _⟩
 ·split
  ·rename_i e
   exact h1 e
  ·omega
 ·split <;> omega
theorem zCI (X : List Int) (j i : Nat) (x : Int) (hj : j < X.length) : (X.set j x).getD i 0 = if j = i then x else X.getD i 0:=by
 rw [zAr]
 by_cases h : j = i
 ·subst h
  rw [if_pos ⟨rfl,hj⟩,if_pos rfl]
 ·rw [if_neg (fun e=>h e.1),if_neg h]
theorem QInv.mid {last : Int} {B : Nat} (h : QInv k C N st r P B last) (hr : r + 1 < N) : QInv (k.step C) C N st (r + 1) P B last:=by
 obtain ⟨m1,m2,m3,m4,m5⟩:=h.at'.mid (C:=C) h.ph hr
 have hsl:=h.at'.slot
 have hlt:=h.at'.slot_lt
 have hX:=h.at'.X
 refine ⟨m1,m2,fun hl q hq=>?_,fun hP hl=>?_,h.c1,h.c2,h.c3,h.l⟩
 ·rw [m4,zCI _ _ _ _ (by omega),hsl]
  split
  ·rename_i e
   rw [e]
  ·rename_i e
   have : q ≠ r:=fun e2=>e (by rw [e2])
   exact h.a hl q (by omega)
 ·obtain ⟨b1,b2⟩:=h.b hP hl
  refine ⟨fun j hj=>?_, ?_⟩
  ·rw [m4,zCI _ _ _ _ (by omega)]
   split
   ·rename_i e
    rw [e]
   ·exact b1 j hj
  ·rw [m5,b2,b1 _ hlt]
   simp
theorem QInv.last {last : Int} {B : Nat} (h : QInv k C N st r P B last) (hr : r + 1 = N) : QInv (k.step C) C N st 0 (P + 1) B last ∨ DInv (k.step C) C N st (P + 1) B last:=by
 obtain ⟨m1,m3,m4,m6,m7⟩:=h.at'.last (C:=C) h.ph hr
 have hsl:=h.at'.slot
 have hlt:=h.at'.slot_lt
 have hX:=h.at'.X
 have h1:=h.c1; have h2:=h.c2; have h3:=h.c3; have hl:=h.l
 have full : last ≠ P → ∀ j,j < N → (k.step C).X.getD j 0 = C.getD j 0:=by
  intro hne j hj
  rw [m4,zCI _ _ _ _ (by omega)]
  split
  ·rename_i e
   rw [e]
  ·rename_i e
   obtain ⟨q,hq,rfl⟩:=zHp h.at'.s1 hj
   have : q ≠ r:=fun e2=>e (by rw [e2,hsl])
   exact h.a hne q (by omega)
 by_cases hd : 1 ≤ P ∧ (k.turned || decide (C.getD k.slot 0 ≠ k.X.getD k.slot 0)) = false
 ·rw [if_pos hd] at m7
  exact .inr ⟨m1,m7,by omega,by omega,fun hlt2=>full (by omega)⟩
 ·rw [if_neg hd] at m7
  refine .inl ⟨m1,m7,fun _ q hq=>by omega,fun _ hl2=>⟨full (by omega),m6⟩,fun e=>by omega,fun _ hc=>?_, ?_,by omega⟩
  ·rcases hc with hc | hc
   ·omega
   ·exact h1 (by omega)
  ·by_cases e : last = (P : Int)
   ·have:=h1 e; omega
   ·by_cases e2 : P = 0 ∨ last = (P : Int) - 1
    ·have:=h2 e e2; omega
    ·exfalso
     obtain ⟨b1,b2⟩:=h.b (by omega) (by omega)
     refine hd ⟨by omega, ?_⟩
     rw [b2,b1 _ hlt]
     simp
def Snap (k : Sn) (C : List Int) (N st i B : Nat) (last : Int) : Prop :=
 (∃ P r,i = P * N + r ∧ QInv k C N st r P B last) ∨ (∃ P,i = P * N ∧ DInv k C N st P B last)
end
end
section
section
variable {W w w' : World} {p c b g : Nat} {v v' : Value} {C C' : List Int} {L L' : List Ev} {k k' : Sn} {R : List Thing}
end
theorem Sn.ev_le (k : Sn) (C : List Int) : (k.ev C).length ≤ 1:=by
 unfold Sn.ev
 split <;> simp
section
variable {k : Sn} {C : List Int} {N st i B : Nat} {last : Int}
theorem Snap.start (t s so d who : Int) (C : List Int) (N st B : Nat) (hs : st < N) : Snap (sn0 t s so d who st N) C N st 0 B (-1) :=
 .inl ⟨0,0,by omega,QInv.start t s so d who C N st B hs⟩
end
end
end
section
open Go.RowKit
section
theorem zCi (t s so d n i : Int) (j : Nat) (w : World) (h : Lay t s n) (i0 : 0 ≤ i) (i1 : i ≤ t) (hj : 2 * n + i = (j : Int)) :
  Calls Tryz.prog 110 #[cf t s so d,i64 i] w fun r w'=>r = .returned (i64 j) ∧ Below w.heap.size w w':=by
 rw [← hj]
 exact zA3 t s so d n i w h i0 i1
theorem zHZ (t s so d n i : Int) (j : Nat) (w : World) (h : Lay t s n) (i0 : 0 ≤ i) (i1 : i ≤ n) (hj : n + i = (j : Int)) :
  Calls Tryz.prog 80 #[cf t s so d,i64 i] w fun r w'=>r = .returned (i64 j) ∧ Below w.heap.size w w':=by
 rw [← hj]
 exact zBt t s so d n i w h i0 i1
theorem zDS (t s so d i : Int) (j : Nat) (w : World) (hj : i = (j : Int)) :
  Calls Tryz.prog 68 #[cf t s so d,i64 i] w fun r w'=>r = .returned (i64 j) ∧ Below w.heap.size w w':=by
 rw [← hj]
 exact zAU t s so d i w
def tkW (x : Int) : Int:=2 + 4 * (x / 4 % 2) + 8 * (x / 8 % 8192) + 65536 * (x / 65536 % 16777216) + 1099511627776 * (x / 1099511627776)
abbrev taL (t s so d who slot word next value : Int) (lost : Bool) (ph : Int) : List Value:=[i64 t,i64 s,i64 so,i64 d,i64 who,i64 slot,u64 word,i64 next,u64 value,.bool lost,i64 ph]
structure AtTa (w : World) (b : Nat) (t s so d who slot word : Int) : Prop where
 c0 : w.cell? ⟨b,0,none⟩ = some (i64 t)
 c1 : w.cell? ⟨b,1,none⟩ = some (i64 s)
 c2 : w.cell? ⟨b,2,none⟩ = some (i64 so)
 c3 : w.cell? ⟨b,3,none⟩ = some (i64 d)
 c4 : w.cell? ⟨b,4,none⟩ = some (i64 who)
 c5 : w.cell? ⟨b,5,none⟩ = some (i64 slot)
 c6 : w.cell? ⟨b,6,none⟩ = some (u64 word)
theorem IsObj.ta {w : World} {b : Nat} {t s so d who slot word : Int} {l : List Value} (h : IsObj w b (i64 t :: i64 s :: i64 so :: i64 d :: i64 who :: i64 slot :: u64 word :: l)) : AtTa w b t s so d who slot word :=
 ⟨h.at' 0 _ rfl,h.at' 1 _ rfl,h.at' 2 _ rfl,h.at' 3 _ rfl,h.at' 4 _ rfl,h.at' 5 _ rfl,h.at' 6 _ rfl⟩
def TaPost (base : Nat) (w : World) (b p c : Nat) (v : Value) (l : List Value) (C' : List Int) (L' : List Ev) (e0 : Ending) (e : Ending) (w' : World) : Prop :=
 e = e0 ∧ ∃ v',Does (· = b) base w w' p c v v' C' L' ∧ IsObj w' b l
section
variable (base : Nat) (w : World) (b p c : Nat) (v : Value) (C : List Int) (L : List Ev) (t s so d who slot word value n : Int)
theorem take_0 (hz : Nat) (hhz : 2 * n + who = (hz : Int)) (y : Int) (hy : C[hz]? = some y) (hT : IsObj w b (taL t s so d who slot word 0 value false 0)) (hl : Lay t s n) (w0 : 0 ≤ who) (w1 : who < t) (s0 : 0 ≤ slot) (s1 : slot < n) (x0 : 0 ≤ word) (x1 : word ≤ 18446744073709551615) (hM : IsMem base w p c v C L) (ha : ¬ Foot p c v b) (hb : base ≤ w.heap.size) (hL : L.length < 1000000000) :
  Calls Tryz.prog 158 #[pt b,pt p] w (TaPost base w b p c v (taL t s so d who slot word 1 value false 0) (C.set hz (slot + 1)) (L ++ [⟨who,1,hz,y,slot + 1,true⟩]) (.returned (i64 0))):=by
 have hn1:=hl.n1; have hn2:=hl.n2; have ht1:=hl.t1; have ht2:=hl.t2
 have HS:=zI2 (Does.refl (B:=(· = b)) hM (fun i hi=>hi ▸ ha) hb)
 have hA : AtTa w.drew b t s so d who slot word:=hT.drew.ta
 have HT:=zI2 hT
 have HHZ:=zI2 hhz
 have HY:=zI2 hy
 have hu1 : IntKind.u64.wrap slot = slot:=by rw [IntKind.wrap_u64]; omega
 have hu2 : IntKind.u64.wrap (slot + 1) = slot + 1:=by rw [IntKind.wrap_u64]; omega
 clear hhz hy
 clear hM ha
 have c0:=hT.at' 7 _ rfl
 have c1:=hT.at' 10 _ rfl
 have c2:=hT.at' 6 _ rfl
 clear hT
 go_enter Tryz.func158,Tryz.ntmps158
 go_wp2_with fail
 clear c0 c1
 replace HT:=zI2 HT.out.drew
 replace HS:=zI2 HS.out.drew
 clear c2
 refine zAF ((fun w'=>AtTa w' b t s so d who slot word)) ((0,true) :: (1,true) :: (2,true) :: (3,true) :: (4,true) :: (5,true) :: (6,true) :: (7,true) :: (8,true) :: (9,true) :: (10,true) :: (11,true) :: (12,true) :: (14,true) :: (15,true) :: (16,true) :: (17,true) :: (18,true) :: (19,true) :: (13,false) :: (20,false) :: []) (by kernel_rfl) (by kernel_rfl) (by kernel_rfl) (by decide) (fun _ _ _ _ _ h=>h) (hA) ?_
 repeat ((first | (refine zAC (v := ?_) rfl ?_ ?_ ?_; rotate_left 1; rfl; focus (rintro wS ⟨c0,c1,c2,c3,c4,c5,c6⟩; go_simp <;> with_reducible rfl)) | (refine zAD rfl ?_ ?_; rfl)); try simp only [Act.put,qset])
 refine zAG rfl (fun K hK=>?_)
 go_simp
 go_at_call 110
 refine (zCi _ _ _ _ n _ hz _ hl w0 (by omega) HHZ.out).mono ?_
 rintro r w1 ⟨rfl,hb1⟩
 (try go_wp2_with fail)
 replace HT:=zI2 (HT.out.later hb1)
 replace HS:=zI2 (HS.out.later hb1)
 clear hb1
 refine hK.out _ _ (HT.out.ta) (fun _=>?_)
 (try simp only [Act.put,qset])
 clear hK K
 repeat ((first | (refine zAC (v := ?_) rfl ?_ ?_ ?_; rotate_left 1; rfl; focus (rintro wS ⟨c0,c1,c2,c3,c4,c5,c6⟩; go_simp <;> with_reducible rfl)) | (refine zAD rfl ?_ ?_; rfl)); try simp only [Act.put,qset])
 refine zAG rfl (fun K hK=>?_)
 go_simp
 go_at_call 123
 refine (zBS base _ p c _ _ _ who hz y (slot + 1) HS.out.mem HY.out HS.out.size hL (by omega) (by omega)).mono ?_
 rintro r w2 ⟨rfl,v2,hT2⟩
 (try go_wp2_with fail)
 have hlt1:=HT.out.lt
 replace HT:=zI2 (HT.out.keep hT2.keep (HS.out.apart b rfl))
 replace HS:=zI2 (HS.out.cells (fun i hi=>hi ▸ hlt1) hT2)
 clear hT2 hlt1
 refine hK.out _ _ (HT.out.ta) (fun _=>?_)
 (try simp only [Act.put,qset])
 clear hK K
 repeat ((first | (refine zAC (v := ?_) rfl ?_ ?_ ?_; rotate_left 1; rfl; focus (rintro wS ⟨c0,c1,c2,c3,c4,c5,c6⟩; go_simp <;> with_reducible rfl)) | (refine zAD rfl ?_ ?_; rfl)); try simp only [Act.put,qset])
 refine zAI ?_
 have c0:=HT.out.at' 0 _ rfl
 have c1:=HT.out.at' 1 _ rfl
 have c2:=HT.out.at' 2 _ rfl
 have c3:=HT.out.at' 3 _ rfl
 have c4:=HT.out.at' 4 _ rfl
 have c5:=HT.out.at' 5 _ rfl
 have c6:=HT.out.at' 6 _ rfl
 have c7:=HT.out.at' 7 _ rfl
 have c8:=HT.out.at' 8 _ rfl
 have c9:=HT.out.at' 9 _ rfl
 have c10:=HT.out.at' 10 _ rfl
 have f7:=HT.out.fz 7
 have f9:=HT.out.fz 9
 have f10:=HT.out.fz 10
 go_wp2_with fail
 refine bodyPost_ret (v:=i64 0) (by simp [results,Tryz.results158,go_sem]) rfl ⟨rfl,_,HS.out.own ((Keep.refl _ _).own 7 _),(HT.out.set 7 (i64 1) : IsObj _ b (taL t s so d who slot word 1 value false 0))⟩
theorem zFC (j : Nat) (hj : slot = (j : Int)) (y : Int) (hy : C[j]? = some y) (hyw : y = word) (hT : IsObj w b (taL t s so d who slot word 1 value false 0)) (hl : Lay t s n) (w0 : 0 ≤ who) (w1 : who < t) (s0 : 0 ≤ slot) (s1 : slot < n) (x0 : 0 ≤ word) (x1 : word ≤ 18446744073709551615) (hM : IsMem base w p c v C L) (ha : ¬ Foot p c v b) (hb : base ≤ w.heap.size) (hL : L.length < 1000000000) :
  Calls Tryz.prog 158 #[pt b,pt p] w (TaPost base w b p c v (taL t s so d who slot word 2 value false 0) C (L ++ [⟨who,0,j,y,y,true⟩]) (.returned (i64 0))):=by
 have hn1:=hl.n1; have hn2:=hl.n2; have ht1:=hl.t1; have ht2:=hl.t2
 have HS:=zI2 (Does.refl (B:=(· = b)) hM (fun i hi=>hi ▸ ha) hb)
 have hA : AtTa w.drew b t s so d who slot word:=hT.drew.ta
 have HT:=zI2 hT
 have HJ:=zI2 hj
 have HY:=zI2 hy
 have hq : (y != word) = false:=by simp [hyw]
 clear hj hy hyw
 clear hM ha
 have c0:=hT.at' 7 _ rfl
 have c1:=hT.at' 10 _ rfl
 have c2:=hT.at' 6 _ rfl
 clear hT
 go_enter Tryz.func158,Tryz.ntmps158
 go_wp2_with fail
 clear c0 c1
 replace HT:=zI2 HT.out.drew
 replace HS:=zI2 HS.out.drew
 clear c2
 refine zAF ((fun w'=>AtTa w' b t s so d who slot word)) ((0,true) :: (1,true) :: (2,true) :: (3,true) :: (4,true) :: (5,true) :: (6,true) :: (7,true) :: (8,true) :: (9,true) :: (10,true) :: (11,true) :: (12,true) :: (13,true) :: (16,true) :: (17,true) :: (18,true) :: (19,true) :: (14,false) :: (15,false) :: (20,true) :: (21,true) :: (22,true) :: (23,false) :: []) (by kernel_rfl) (by kernel_rfl) (by kernel_rfl) (by decide) (fun _ _ _ _ _ h=>h) (hA) ?_
 repeat ((first | (refine zAC (v := ?_) rfl ?_ ?_ ?_; rotate_left 1; rfl; focus (rintro wS ⟨c0,c1,c2,c3,c4,c5,c6⟩; go_simp <;> with_reducible rfl)) | (refine zAD rfl ?_ ?_; rfl)); try simp only [Act.put,qset])
 refine zAG rfl (fun K hK=>?_)
 go_simp
 go_at_call 68
 refine (zDS _ _ _ _ _ j _ HJ.out).mono ?_
 rintro r w1 ⟨rfl,hb1⟩
 (try go_wp2_with fail)
 replace HT:=zI2 (HT.out.later hb1)
 replace HS:=zI2 (HS.out.later hb1)
 clear hb1
 refine hK.out _ _ (HT.out.ta) (fun _=>?_)
 (try simp only [Act.put,qset])
 clear hK K
 repeat ((first | (refine zAC (v := ?_) rfl ?_ ?_ ?_; rotate_left 1; rfl; focus (rintro wS ⟨c0,c1,c2,c3,c4,c5,c6⟩; go_simp <;> with_reducible rfl)) | (refine zAD rfl ?_ ?_; rfl)); try simp only [Act.put,qset])
 refine zAG rfl (fun K hK=>?_)
 go_simp
 go_at_call 164
 refine (zAu base _ p c _ _ _ who j y HS.out.mem HY.out HS.out.size hL).mono ?_
 rintro r w2 ⟨rfl,v2,hT2⟩
 (try go_wp2_with fail)
 have hlt1:=HT.out.lt
 replace HT:=zI2 (HT.out.keep hT2.keep (HS.out.apart b rfl))
 replace HS:=zI2 (HS.out.cells (fun i hi=>hi ▸ hlt1) hT2)
 clear hT2 hlt1
 refine hK.out _ _ (HT.out.ta) (fun _=>?_)
 (try simp only [Act.put,qset])
 clear hK K
 repeat ((first | (refine zAC (v := ?_) rfl ?_ ?_ ?_; rotate_left 1; rfl; focus (rintro wS ⟨c0,c1,c2,c3,c4,c5,c6⟩; go_simp <;> with_reducible rfl)) | (refine zAD rfl ?_ ?_; rfl)); try simp only [Act.put,qset])
 have c9:=HT.out.at' 9 _ rfl
 have f9:=HT.out.fz 9
 refine zAG rfl (fun K hK=>?_)
 go_simp
 replace HT : Hid (IsObj _ b (taL t s so d who slot word 1 value false 0)):=zI2 (HT.out.set 9 (.bool false))
 replace HS:=zI2 (HS.out.own ((Keep.refl _ _).own 9 (.bool false)))
 clear c9 f9
 refine hK.out _ _ (HT.out.ta) (fun _=>?_)
 (try simp only [Act.put,qset])
 clear hK K
 refine zAI ?_
 have c0:=HT.out.at' 0 _ rfl
 have c1:=HT.out.at' 1 _ rfl
 have c2:=HT.out.at' 2 _ rfl
 have c3:=HT.out.at' 3 _ rfl
 have c4:=HT.out.at' 4 _ rfl
 have c5:=HT.out.at' 5 _ rfl
 have c6:=HT.out.at' 6 _ rfl
 have c7:=HT.out.at' 7 _ rfl
 have c8:=HT.out.at' 8 _ rfl
 have c9:=HT.out.at' 9 _ rfl
 have c10:=HT.out.at' 10 _ rfl
 have f7:=HT.out.fz 7
 have f9:=HT.out.fz 9
 have f10:=HT.out.fz 10
 go_wp2_with fail
 refine bodyPost_ret (v:=i64 0) (by simp [results,Tryz.results158,go_sem]) rfl ⟨rfl,_,HS.out.own ((Keep.refl _ _).own 7 _),(HT.out.set 7 (i64 2) : IsObj _ b (taL t s so d who slot word 2 value false 0))⟩
theorem zES (j : Nat) (hj : slot = (j : Int)) (y : Int) (hy : C[j]? = some y) (hyw : y ≠ word) (hT : IsObj w b (taL t s so d who slot word 1 value false 0)) (hl : Lay t s n) (w0 : 0 ≤ who) (w1 : who < t) (s0 : 0 ≤ slot) (s1 : slot < n) (x0 : 0 ≤ word) (x1 : word ≤ 18446744073709551615) (hM : IsMem base w p c v C L) (ha : ¬ Foot p c v b) (hb : base ≤ w.heap.size) (hL : L.length < 1000000000) :
  Calls Tryz.prog 158 #[pt b,pt p] w (TaPost base w b p c v (taL t s so d who slot word 4 value true 0) C (L ++ [⟨who,0,j,y,y,true⟩]) (.returned (i64 0))):=by
 have hn1:=hl.n1; have hn2:=hl.n2; have ht1:=hl.t1; have ht2:=hl.t2
 have HS:=zI2 (Does.refl (B:=(· = b)) hM (fun i hi=>hi ▸ ha) hb)
 have hA : AtTa w.drew b t s so d who slot word:=hT.drew.ta
 have HT:=zI2 hT
 have HJ:=zI2 hj
 have HY:=zI2 hy
 have hq : (y != word) = true:=by simp [hyw]
 clear hj hy hyw
 clear hM ha
 have c0:=hT.at' 7 _ rfl
 have c1:=hT.at' 10 _ rfl
 have c2:=hT.at' 6 _ rfl
 clear hT
 go_enter Tryz.func158,Tryz.ntmps158
 go_wp2_with fail
 clear c0 c1
 replace HT:=zI2 HT.out.drew
 replace HS:=zI2 HS.out.drew
 clear c2
 refine zAF ((fun w'=>AtTa w' b t s so d who slot word)) ((0,true) :: (1,true) :: (2,true) :: (3,true) :: (4,true) :: (5,true) :: (6,true) :: (7,true) :: (8,true) :: (9,true) :: (10,true) :: (11,true) :: (12,true) :: (13,true) :: (16,true) :: (17,true) :: (18,true) :: (19,true) :: (14,false) :: (15,false) :: (20,true) :: (21,true) :: (22,true) :: (23,false) :: []) (by kernel_rfl) (by kernel_rfl) (by kernel_rfl) (by decide) (fun _ _ _ _ _ h=>h) (hA) ?_
 repeat ((first | (refine zAC (v := ?_) rfl ?_ ?_ ?_; rotate_left 1; rfl; focus (rintro wS ⟨c0,c1,c2,c3,c4,c5,c6⟩; go_simp <;> with_reducible rfl)) | (refine zAD rfl ?_ ?_; rfl)); try simp only [Act.put,qset])
 refine zAG rfl (fun K hK=>?_)
 go_simp
 go_at_call 68
 refine (zDS _ _ _ _ _ j _ HJ.out).mono ?_
 rintro r w1 ⟨rfl,hb1⟩
 (try go_wp2_with fail)
 replace HT:=zI2 (HT.out.later hb1)
 replace HS:=zI2 (HS.out.later hb1)
 clear hb1
 refine hK.out _ _ (HT.out.ta) (fun _=>?_)
 (try simp only [Act.put,qset])
 clear hK K
 repeat ((first | (refine zAC (v := ?_) rfl ?_ ?_ ?_; rotate_left 1; rfl; focus (rintro wS ⟨c0,c1,c2,c3,c4,c5,c6⟩; go_simp <;> with_reducible rfl)) | (refine zAD rfl ?_ ?_; rfl)); try simp only [Act.put,qset])
 refine zAG rfl (fun K hK=>?_)
 go_simp
 go_at_call 164
 refine (zAu base _ p c _ _ _ who j y HS.out.mem HY.out HS.out.size hL).mono ?_
 rintro r w2 ⟨rfl,v2,hT2⟩
 (try go_wp2_with fail)
 have hlt1:=HT.out.lt
 replace HT:=zI2 (HT.out.keep hT2.keep (HS.out.apart b rfl))
 replace HS:=zI2 (HS.out.cells (fun i hi=>hi ▸ hlt1) hT2)
 clear hT2 hlt1
 refine hK.out _ _ (HT.out.ta) (fun _=>?_)
 (try simp only [Act.put,qset])
 clear hK K
 repeat ((first | (refine zAC (v := ?_) rfl ?_ ?_ ?_; rotate_left 1; rfl; focus (rintro wS ⟨c0,c1,c2,c3,c4,c5,c6⟩; go_simp <;> with_reducible rfl)) | (refine zAD rfl ?_ ?_; rfl)); try simp only [Act.put,qset])
 have c9:=HT.out.at' 9 _ rfl
 have f9:=HT.out.fz 9
 refine zAG rfl (fun K hK=>?_)
 go_simp
 replace HT : Hid (IsObj _ b (taL t s so d who slot word 1 value true 0)):=zI2 (HT.out.set 9 (.bool true))
 replace HS:=zI2 (HS.out.own ((Keep.refl _ _).own 9 (.bool true)))
 clear c9 f9
 refine hK.out _ _ (HT.out.ta) (fun _=>?_)
 (try simp only [Act.put,qset])
 clear hK K
 refine zAI ?_
 have c0:=HT.out.at' 0 _ rfl
 have c1:=HT.out.at' 1 _ rfl
 have c2:=HT.out.at' 2 _ rfl
 have c3:=HT.out.at' 3 _ rfl
 have c4:=HT.out.at' 4 _ rfl
 have c5:=HT.out.at' 5 _ rfl
 have c6:=HT.out.at' 6 _ rfl
 have c7:=HT.out.at' 7 _ rfl
 have c8:=HT.out.at' 8 _ rfl
 have c9:=HT.out.at' 9 _ rfl
 have c10:=HT.out.at' 10 _ rfl
 have f7:=HT.out.fz 7
 have f9:=HT.out.fz 9
 have f10:=HT.out.fz 10
 go_wp2_with fail
 refine bodyPost_ret (v:=i64 0) (by simp [results,Tryz.results158,go_sem]) rfl ⟨rfl,_,HS.out.own (((Keep.refl _ _).own 7 _).own 7 _),((HT.out.set 7 (i64 2)).set 7 (i64 4) : IsObj _ b (taL t s so d who slot word 4 value true 0))⟩
theorem take_2 (j : Nat) (hj : n + slot = (j : Int)) (y : Int) (hy : C[j]? = some y) (hT : IsObj w b (taL t s so d who slot word 2 value false 0)) (hl : Lay t s n) (w0 : 0 ≤ who) (w1 : who < t) (s0 : 0 ≤ slot) (s1 : slot < n) (x0 : 0 ≤ word) (x1 : word ≤ 18446744073709551615) (hM : IsMem base w p c v C L) (ha : ¬ Foot p c v b) (hb : base ≤ w.heap.size) (hL : L.length < 1000000000) :
  Calls Tryz.prog 158 #[pt b,pt p] w (TaPost base w b p c v (taL t s so d who slot word 3 y false 0) C (L ++ [⟨who,0,j,y,y,true⟩]) (.returned (i64 0))):=by
 have hn1:=hl.n1; have hn2:=hl.n2; have ht1:=hl.t1; have ht2:=hl.t2
 have HS:=zI2 (Does.refl (B:=(· = b)) hM (fun i hi=>hi ▸ ha) hb)
 have hA : AtTa w.drew b t s so d who slot word:=hT.drew.ta
 have HT:=zI2 hT
 have HJ:=zI2 hj
 have HY:=zI2 hy
 clear hj hy
 clear hM ha
 have c0:=hT.at' 7 _ rfl
 have c1:=hT.at' 10 _ rfl
 have c2:=hT.at' 6 _ rfl
 clear hT
 go_enter Tryz.func158,Tryz.ntmps158
 go_wp2_with fail
 clear c0 c1
 replace HT:=zI2 HT.out.drew
 replace HS:=zI2 HS.out.drew
 clear c2
 refine zAF ((fun w'=>AtTa w' b t s so d who slot word)) ((0,true) :: (1,true) :: (2,true) :: (3,true) :: (4,true) :: (5,true) :: (6,true) :: (7,true) :: (8,true) :: (9,true) :: (10,true) :: (11,true) :: (12,true) :: (13,true) :: (14,false) :: (15,false) :: (16,true) :: (17,true) :: (18,false) :: []) (by kernel_rfl) (by kernel_rfl) (by kernel_rfl) (by decide) (fun _ _ _ _ _ h=>h) (hA) ?_
 repeat ((first | (refine zAC (v := ?_) rfl ?_ ?_ ?_; rotate_left 1; rfl; focus (rintro wS ⟨c0,c1,c2,c3,c4,c5,c6⟩; go_simp <;> with_reducible rfl)) | (refine zAD rfl ?_ ?_; rfl)); try simp only [Act.put,qset])
 refine zAG rfl (fun K hK=>?_)
 go_simp
 go_at_call 80
 refine (zHZ _ _ _ _ n _ j _ hl s0 (by omega) HJ.out).mono ?_
 rintro r w1 ⟨rfl,hb1⟩
 (try go_wp2_with fail)
 replace HT:=zI2 (HT.out.later hb1)
 replace HS:=zI2 (HS.out.later hb1)
 clear hb1
 refine hK.out _ _ (HT.out.ta) (fun _=>?_)
 (try simp only [Act.put,qset])
 clear hK K
 repeat ((first | (refine zAC (v := ?_) rfl ?_ ?_ ?_; rotate_left 1; rfl; focus (rintro wS ⟨c0,c1,c2,c3,c4,c5,c6⟩; go_simp <;> with_reducible rfl)) | (refine zAD rfl ?_ ?_; rfl)); try simp only [Act.put,qset])
 refine zAG rfl (fun K hK=>?_)
 go_simp
 go_at_call 164
 refine (zAu base _ p c _ _ _ who j y HS.out.mem HY.out HS.out.size hL).mono ?_
 rintro r w2 ⟨rfl,v2,hT2⟩
 (try go_wp2_with fail)
 have hlt1:=HT.out.lt
 replace HT:=zI2 (HT.out.keep hT2.keep (HS.out.apart b rfl))
 replace HS:=zI2 (HS.out.cells (fun i hi=>hi ▸ hlt1) hT2)
 clear hT2 hlt1
 refine hK.out _ _ (HT.out.ta) (fun _=>?_)
 (try simp only [Act.put,qset])
 clear hK K
 repeat ((first | (refine zAC (v := ?_) rfl ?_ ?_ ?_; rotate_left 1; rfl; focus (rintro wS ⟨c0,c1,c2,c3,c4,c5,c6⟩; go_simp <;> with_reducible rfl)) | (refine zAD rfl ?_ ?_; rfl)); try simp only [Act.put,qset])
 have c8:=HT.out.at' 8 _ rfl
 have f8:=HT.out.fz 8
 refine zAG rfl (fun K hK=>?_)
 go_simp
 replace HT : Hid (IsObj _ b (taL t s so d who slot word 2 y false 0)):=zI2 (HT.out.set 8 (u64 y))
 replace HS:=zI2 (HS.out.own ((Keep.refl _ _).own 8 (u64 y)))
 clear c8 f8
 refine hK.out _ _ (HT.out.ta) (fun _=>?_)
 (try simp only [Act.put,qset])
 clear hK K
 refine zAI ?_
 have c0:=HT.out.at' 0 _ rfl
 have c1:=HT.out.at' 1 _ rfl
 have c2:=HT.out.at' 2 _ rfl
 have c3:=HT.out.at' 3 _ rfl
 have c4:=HT.out.at' 4 _ rfl
 have c5:=HT.out.at' 5 _ rfl
 have c6:=HT.out.at' 6 _ rfl
 have c7:=HT.out.at' 7 _ rfl
 have c8:=HT.out.at' 8 _ rfl
 have c9:=HT.out.at' 9 _ rfl
 have c10:=HT.out.at' 10 _ rfl
 have f7:=HT.out.fz 7
 have f9:=HT.out.fz 9
 have f10:=HT.out.fz 10
 go_wp2_with fail
 refine bodyPost_ret (v:=i64 0) (by simp [results,Tryz.results158,go_sem]) rfl ⟨rfl,_,HS.out.own ((Keep.refl _ _).own 7 _),(HT.out.set 7 (i64 3) : IsObj _ b (taL t s so d who slot word 3 y false 0))⟩
theorem zFB (j : Nat) (hj : slot = (j : Int)) (hy : C[j]? = some word)  (hT : IsObj w b (taL t s so d who slot word 3 value false 0)) (hl : Lay t s n) (w0 : 0 ≤ who) (w1 : who < t) (s0 : 0 ≤ slot) (s1 : slot < n) (x0 : 0 ≤ word) (x1 : word ≤ 18446744073709551615) (hM : IsMem base w p c v C L) (ha : ¬ Foot p c v b) (hb : base ≤ w.heap.size) (hL : L.length < 1000000000) :
  Calls Tryz.prog 158 #[pt b,pt p] w (TaPost base w b p c v (taL t s so d who slot word 4 value false 0) (C.set j (tkW word)) (L ++ [⟨who,2,j,word,tkW word,true⟩]) (.returned (i64 0))):=by
 have hn1:=hl.n1; have hn2:=hl.n2; have ht1:=hl.t1; have ht2:=hl.t2
 have HS:=zI2 (Does.refl (B:=(· = b)) hM (fun i hi=>hi ▸ ha) hb)
 have hA : AtTa w.drew b t s so d who slot word:=hT.drew.ta
 have HT:=zI2 hT
 have HJ:=zI2 hj
 have HY:=zI2 hy
 clear hj hy
 obtain ⟨kw,hkw⟩ : ∃ kw : Int,tkW word = kw:=⟨_,rfl⟩
 have hk0 : 0 ≤ kw ∧ kw ≤ 18446744073709551615:=by rw [← hkw]; unfold tkW; omega
 obtain ⟨hk0,hk1⟩:=hk0
 rw [hkw]
 have HKW:=zI2 hkw
 clear hkw
 clear hM ha
 have c0:=hT.at' 7 _ rfl
 have c1:=hT.at' 10 _ rfl
 have c2:=hT.at' 6 _ rfl
 clear hT
 go_enter Tryz.func158,Tryz.ntmps158
 go_wp2_with fail
 clear c0 c1
 refine (zAN word _ x0 x1).mono ?_
 rintro r w1 ⟨rfl,hb1⟩
 replace HT:=zI2 (HT.out.later hb1)
 replace HS:=zI2 (HS.out.later hb1)
 clear hb1
 go_wp2_with fail
 refine (zAs _ _ _ _ _ _).mono ?_
 rintro r w1 ⟨rfl,hb1⟩
 replace HT:=zI2 (HT.out.later hb1)
 replace HS:=zI2 (HS.out.later hb1)
 clear hb1
 go_wp2_with fail
 refine (zB3 2 (word / 4 % 2) (word / 8 % 8192) (word / 65536 % 16777216) (word / 1099511627776) _ ⟨by omega,by omega,by omega,by omega,by omega,by omega,by omega,by omega,by omega,by omega⟩).mono ?_
 rintro r w1 ⟨rfl,hb1⟩
 replace HT:=zI2 (HT.out.later hb1)
 replace HS:=zI2 (HS.out.later hb1)
 clear hb1
 rw [show 2 + 4 * (word / 4 % 2) + 8 * (word / 8 % 8192) + 65536 * (word / 65536 % 16777216) + 1099511627776 * (word / 1099511627776) = kw from HKW.out]
 clear c2
 go_wp2_with fail
 have hA:=HT.out.drew.ta
 replace HT:=zI2 HT.out.drew
 replace HS:=zI2 HS.out.drew
 refine zAF ((fun w'=>AtTa w' b t s so d who slot word)) ((0,true) :: (1,true) :: (2,true) :: (3,true) :: (4,true) :: (5,true) :: (6,true) :: (7,true) :: (8,true) :: (9,true) :: (10,true) :: (11,true) :: (12,true) :: (13,true) :: (15,true) :: (16,true) :: (17,true) :: (18,true) :: (19,true) :: (14,false) :: (20,false) :: (21,true) :: (22,true) :: (23,true) :: (24,false) :: []) (by kernel_rfl) (by kernel_rfl) (by kernel_rfl) (by decide) (fun _ _ _ _ _ h=>h) (hA) ?_
 repeat ((first | (refine zAC (v := ?_) rfl ?_ ?_ ?_; rotate_left 1; rfl; focus (rintro wS ⟨c0,c1,c2,c3,c4,c5,c6⟩; go_simp <;> with_reducible rfl)) | (refine zAD rfl ?_ ?_; rfl)); try simp only [Act.put,qset])
 refine zAG rfl (fun K hK=>?_)
 go_simp
 go_at_call 68
 refine (zDS _ _ _ _ _ j _ HJ.out).mono ?_
 rintro r w1 ⟨rfl,hb1⟩
 (try go_wp2_with fail)
 replace HT:=zI2 (HT.out.later hb1)
 replace HS:=zI2 (HS.out.later hb1)
 clear hb1
 refine hK.out _ _ (HT.out.ta) (fun _=>?_)
 (try simp only [Act.put,qset])
 clear hK K
 repeat ((first | (refine zAC (v := ?_) rfl ?_ ?_ ?_; rotate_left 1; rfl; focus (rintro wS ⟨c0,c1,c2,c3,c4,c5,c6⟩; go_simp <;> with_reducible rfl)) | (refine zAD rfl ?_ ?_; rfl)); try simp only [Act.put,qset])
 refine zAG rfl (fun K hK=>?_)
 go_simp
 go_at_call 170
 refine (zEp base _ p c _ _ _ who j word kw HS.out.mem HY.out HS.out.size hL hk0 hk1).mono ?_
 rintro r w2 ⟨rfl,v2,hT2⟩
 (try go_wp2_with fail)
 have hlt1:=HT.out.lt
 replace HT:=zI2 (HT.out.keep hT2.keep (HS.out.apart b rfl))
 replace HS:=zI2 (HS.out.cells (fun i hi=>hi ▸ hlt1) hT2)
 clear hT2 hlt1
 refine hK.out _ _ (HT.out.ta) (fun _=>?_)
 (try simp only [Act.put,qset])
 clear hK K
 repeat ((first | (refine zAC (v := ?_) rfl ?_ ?_ ?_; rotate_left 1; rfl; focus (rintro wS ⟨c0,c1,c2,c3,c4,c5,c6⟩; go_simp <;> with_reducible rfl)) | (refine zAD rfl ?_ ?_; rfl)); try simp only [Act.put,qset])
 have c9:=HT.out.at' 9 _ rfl
 have f9:=HT.out.fz 9
 refine zAG rfl (fun K hK=>?_)
 go_simp
 replace HT : Hid (IsObj _ b (taL t s so d who slot word 3 value false 0)):=zI2 (HT.out.set 9 (.bool false))
 replace HS:=zI2 (HS.out.own ((Keep.refl _ _).own 9 (.bool false)))
 clear c9 f9
 refine hK.out _ _ (HT.out.ta) (fun _=>?_)
 (try simp only [Act.put,qset])
 clear hK K
 refine zAI ?_
 have c0:=HT.out.at' 0 _ rfl
 have c1:=HT.out.at' 1 _ rfl
 have c2:=HT.out.at' 2 _ rfl
 have c3:=HT.out.at' 3 _ rfl
 have c4:=HT.out.at' 4 _ rfl
 have c5:=HT.out.at' 5 _ rfl
 have c6:=HT.out.at' 6 _ rfl
 have c7:=HT.out.at' 7 _ rfl
 have c8:=HT.out.at' 8 _ rfl
 have c9:=HT.out.at' 9 _ rfl
 have c10:=HT.out.at' 10 _ rfl
 have f7:=HT.out.fz 7
 have f9:=HT.out.fz 9
 have f10:=HT.out.fz 10
 go_wp2_with fail
 refine bodyPost_ret (v:=i64 0) (by simp [results,Tryz.results158,go_sem]) rfl ⟨rfl,_,HS.out.own ((Keep.refl _ _).own 7 _),(HT.out.set 7 (i64 4) : IsObj _ b (taL t s so d who slot word 4 value false 0))⟩
theorem zEY (j : Nat) (hj : slot = (j : Int)) (y : Int) (hy : C[j]? = some y) (hyw : y ≠ word) (hT : IsObj w b (taL t s so d who slot word 3 value false 0)) (hl : Lay t s n) (w0 : 0 ≤ who) (w1 : who < t) (s0 : 0 ≤ slot) (s1 : slot < n) (x0 : 0 ≤ word) (x1 : word ≤ 18446744073709551615) (hM : IsMem base w p c v C L) (ha : ¬ Foot p c v b) (hb : base ≤ w.heap.size) (hL : L.length < 1000000000) :
  Calls Tryz.prog 158 #[pt b,pt p] w (TaPost base w b p c v (taL t s so d who slot word 4 value true 0) C (L ++ [⟨who,2,j,y,y,false⟩]) (.returned (i64 0))):=by
 have hn1:=hl.n1; have hn2:=hl.n2; have ht1:=hl.t1; have ht2:=hl.t2
 have HS:=zI2 (Does.refl (B:=(· = b)) hM (fun i hi=>hi ▸ ha) hb)
 have hA : AtTa w.drew b t s so d who slot word:=hT.drew.ta
 have HT:=zI2 hT
 have HJ:=zI2 hj
 have HY:=zI2 hy
 have HNE:=zI2 hyw
 clear hyw
 clear hj hy
 obtain ⟨kw,hkw⟩ : ∃ kw : Int,tkW word = kw:=⟨_,rfl⟩
 have hk0 : 0 ≤ kw ∧ kw ≤ 18446744073709551615:=by rw [← hkw]; unfold tkW; omega
 obtain ⟨hk0,hk1⟩:=hk0
 have HKW:=zI2 hkw
 clear hkw
 clear hM ha
 have c0:=hT.at' 7 _ rfl
 have c1:=hT.at' 10 _ rfl
 have c2:=hT.at' 6 _ rfl
 clear hT
 go_enter Tryz.func158,Tryz.ntmps158
 go_wp2_with fail
 clear c0 c1
 refine (zAN word _ x0 x1).mono ?_
 rintro r w1 ⟨rfl,hb1⟩
 replace HT:=zI2 (HT.out.later hb1)
 replace HS:=zI2 (HS.out.later hb1)
 clear hb1
 go_wp2_with fail
 refine (zAs _ _ _ _ _ _).mono ?_
 rintro r w1 ⟨rfl,hb1⟩
 replace HT:=zI2 (HT.out.later hb1)
 replace HS:=zI2 (HS.out.later hb1)
 clear hb1
 go_wp2_with fail
 refine (zB3 2 (word / 4 % 2) (word / 8 % 8192) (word / 65536 % 16777216) (word / 1099511627776) _ ⟨by omega,by omega,by omega,by omega,by omega,by omega,by omega,by omega,by omega,by omega⟩).mono ?_
 rintro r w1 ⟨rfl,hb1⟩
 replace HT:=zI2 (HT.out.later hb1)
 replace HS:=zI2 (HS.out.later hb1)
 clear hb1
 rw [show 2 + 4 * (word / 4 % 2) + 8 * (word / 8 % 8192) + 65536 * (word / 65536 % 16777216) + 1099511627776 * (word / 1099511627776) = kw from HKW.out]
 clear c2
 go_wp2_with fail
 have hA:=HT.out.drew.ta
 replace HT:=zI2 HT.out.drew
 replace HS:=zI2 HS.out.drew
 refine zAF ((fun w'=>AtTa w' b t s so d who slot word)) ((0,true) :: (1,true) :: (2,true) :: (3,true) :: (4,true) :: (5,true) :: (6,true) :: (7,true) :: (8,true) :: (9,true) :: (10,true) :: (11,true) :: (12,true) :: (13,true) :: (15,true) :: (16,true) :: (17,true) :: (18,true) :: (19,true) :: (14,false) :: (20,false) :: (21,true) :: (22,true) :: (23,true) :: (24,false) :: []) (by kernel_rfl) (by kernel_rfl) (by kernel_rfl) (by decide) (fun _ _ _ _ _ h=>h) (hA) ?_
 repeat ((first | (refine zAC (v := ?_) rfl ?_ ?_ ?_; rotate_left 1; rfl; focus (rintro wS ⟨c0,c1,c2,c3,c4,c5,c6⟩; go_simp <;> with_reducible rfl)) | (refine zAD rfl ?_ ?_; rfl)); try simp only [Act.put,qset])
 refine zAG rfl (fun K hK=>?_)
 go_simp
 go_at_call 68
 refine (zDS _ _ _ _ _ j _ HJ.out).mono ?_
 rintro r w1 ⟨rfl,hb1⟩
 (try go_wp2_with fail)
 replace HT:=zI2 (HT.out.later hb1)
 replace HS:=zI2 (HS.out.later hb1)
 clear hb1
 refine hK.out _ _ (HT.out.ta) (fun _=>?_)
 (try simp only [Act.put,qset])
 clear hK K
 repeat ((first | (refine zAC (v := ?_) rfl ?_ ?_ ?_; rotate_left 1; rfl; focus (rintro wS ⟨c0,c1,c2,c3,c4,c5,c6⟩; go_simp <;> with_reducible rfl)) | (refine zAD rfl ?_ ?_; rfl)); try simp only [Act.put,qset])
 refine zAG rfl (fun K hK=>?_)
 go_simp
 go_at_call 170
 refine (zGu base _ p c _ _ _ who j y word kw HS.out.mem HY.out HS.out.size hL HNE.out).mono ?_
 rintro r w2 ⟨rfl,v2,hT2⟩
 (try go_wp2_with fail)
 have hlt1:=HT.out.lt
 replace HT:=zI2 (HT.out.keep hT2.keep (HS.out.apart b rfl))
 replace HS:=zI2 (HS.out.cells (fun i hi=>hi ▸ hlt1) hT2)
 clear hT2 hlt1
 refine hK.out _ _ (HT.out.ta) (fun _=>?_)
 (try simp only [Act.put,qset])
 clear hK K
 repeat ((first | (refine zAC (v := ?_) rfl ?_ ?_ ?_; rotate_left 1; rfl; focus (rintro wS ⟨c0,c1,c2,c3,c4,c5,c6⟩; go_simp <;> with_reducible rfl)) | (refine zAD rfl ?_ ?_; rfl)); try simp only [Act.put,qset])
 have c9:=HT.out.at' 9 _ rfl
 have f9:=HT.out.fz 9
 refine zAG rfl (fun K hK=>?_)
 go_simp
 replace HT : Hid (IsObj _ b (taL t s so d who slot word 3 value true 0)):=zI2 (HT.out.set 9 (.bool true))
 replace HS:=zI2 (HS.out.own ((Keep.refl _ _).own 9 (.bool true)))
 clear c9 f9
 refine hK.out _ _ (HT.out.ta) (fun _=>?_)
 (try simp only [Act.put,qset])
 clear hK K
 refine zAI ?_
 have c0:=HT.out.at' 0 _ rfl
 have c1:=HT.out.at' 1 _ rfl
 have c2:=HT.out.at' 2 _ rfl
 have c3:=HT.out.at' 3 _ rfl
 have c4:=HT.out.at' 4 _ rfl
 have c5:=HT.out.at' 5 _ rfl
 have c6:=HT.out.at' 6 _ rfl
 have c7:=HT.out.at' 7 _ rfl
 have c8:=HT.out.at' 8 _ rfl
 have c9:=HT.out.at' 9 _ rfl
 have c10:=HT.out.at' 10 _ rfl
 have f7:=HT.out.fz 7
 have f9:=HT.out.fz 9
 have f10:=HT.out.fz 10
 go_wp2_with fail
 refine bodyPost_ret (v:=i64 0) (by simp [results,Tryz.results158,go_sem]) rfl ⟨rfl,_,HS.out.own (((Keep.refl _ _).own 7 _).own 7 _),((HT.out.set 7 (i64 4)).set 7 (i64 4) : IsObj _ b (taL t s so d who slot word 4 value true 0))⟩
theorem zF2 (w : World) (b : Nat) (t s so d who slot word next value : Int) (hT : IsObj w b (taL t s so d who slot word next value false 0)) :
  Calls Tryz.prog 175 #[pt b] w fun r w'=>r = .returned (.tuple #[]) ∧ IsObj w' b (taL t s so d who slot word next value false 1) ∧ Keep (· = b) w w':=by
 have c9:=hT.at' 9 _ rfl
 have c10:=hT.at' 10 _ rfl
 have f10:=hT.fz 10
 have HT:=zI2 hT
 clear hT
 go_enter Tryz.func175,Tryz.ntmps175
 go_wp2
 go_end0
 exact ⟨rfl,(HT.out.set 10 (i64 1) : IsObj _ b (taL t s so d who slot word next value false 1)),(Keep.refl _ _).own 10 _⟩
theorem zEJ (hz : Nat) (hhz : 2 * n + who = (hz : Int)) (y : Int) (hy : C[hz]? = some y) (hT : IsObj w b (taL t s so d who slot word 4 value false 0)) (hl : Lay t s n) (w0 : 0 ≤ who) (w1 : who < t) (s0 : 0 ≤ slot) (s1 : slot < n) (x0 : 0 ≤ word) (x1 : word ≤ 18446744073709551615) (hM : IsMem base w p c v C L) (ha : ¬ Foot p c v b) (hb : base ≤ w.heap.size) (hL : L.length < 1000000000) :
  Calls Tryz.prog 158 #[pt b,pt p] w (TaPost base w b p c v (taL t s so d who slot word 5 value false 1) (C.set hz 0) (L ++ [⟨who,1,hz,y,0,true⟩]) (.returned (i64 1))):=by
 have hn1:=hl.n1; have hn2:=hl.n2; have ht1:=hl.t1; have ht2:=hl.t2
 have HS:=zI2 (Does.refl (B:=(· = b)) hM (fun i hi=>hi ▸ ha) hb)
 have hA : AtTa w.drew b t s so d who slot word:=hT.drew.ta
 have HT:=zI2 hT
 have HHZ:=zI2 hhz
 have HY:=zI2 hy
 clear hhz hy
 clear hM ha
 have c0:=hT.at' 7 _ rfl
 have c1:=hT.at' 10 _ rfl
 have c2:=hT.at' 6 _ rfl
 clear hT
 go_enter Tryz.func158,Tryz.ntmps158
 go_wp2_with fail
 clear c0 c1
 replace HT:=zI2 HT.out.drew
 replace HS:=zI2 HS.out.drew
 clear c2
 refine zAF ((fun w'=>AtTa w' b t s so d who slot word)) ((0,true) :: (1,true) :: (2,true) :: (3,true) :: (4,true) :: (5,true) :: (6,true) :: (7,true) :: (8,true) :: (9,true) :: (10,true) :: (11,true) :: (12,true) :: (13,false) :: (14,false) :: []) (by kernel_rfl) (by kernel_rfl) (by kernel_rfl) (by decide) (fun _ _ _ _ _ h=>h) (hA) ?_
 repeat ((first | (refine zAC (v := ?_) rfl ?_ ?_ ?_; rotate_left 1; rfl; focus (rintro wS ⟨c0,c1,c2,c3,c4,c5,c6⟩; go_simp <;> with_reducible rfl)) | (refine zAD rfl ?_ ?_; rfl)); try simp only [Act.put,qset])
 refine zAG rfl (fun K hK=>?_)
 go_simp
 go_at_call 110
 refine (zCi _ _ _ _ n _ hz _ hl w0 (by omega) HHZ.out).mono ?_
 rintro r w1 ⟨rfl,hb1⟩
 (try go_wp2_with fail)
 replace HT:=zI2 (HT.out.later hb1)
 replace HS:=zI2 (HS.out.later hb1)
 clear hb1
 refine hK.out _ _ (HT.out.ta) (fun _=>?_)
 (try simp only [Act.put,qset])
 clear hK K
 repeat ((first | (refine zAC (v := ?_) rfl ?_ ?_ ?_; rotate_left 1; rfl; focus (rintro wS ⟨c0,c1,c2,c3,c4,c5,c6⟩; go_simp <;> with_reducible rfl)) | (refine zAD rfl ?_ ?_; rfl)); try simp only [Act.put,qset])
 refine zAG rfl (fun K hK=>?_)
 go_simp
 go_at_call 123
 refine (zBS base _ p c _ _ _ who hz y 0 HS.out.mem HY.out HS.out.size hL (by omega) (by omega)).mono ?_
 rintro r w2 ⟨rfl,v2,hT2⟩
 (try go_wp2_with fail)
 have hlt1:=HT.out.lt
 replace HT:=zI2 (HT.out.keep hT2.keep (HS.out.apart b rfl))
 replace HS:=zI2 (HS.out.cells (fun i hi=>hi ▸ hlt1) hT2)
 clear hT2 hlt1
 refine hK.out _ _ (HT.out.ta) (fun _=>?_)
 (try simp only [Act.put,qset])
 clear hK K
 repeat ((first | (refine zAC (v := ?_) rfl ?_ ?_ ?_; rotate_left 1; rfl; focus (rintro wS ⟨c0,c1,c2,c3,c4,c5,c6⟩; go_simp <;> with_reducible rfl)) | (refine zAD rfl ?_ ?_; rfl)); try simp only [Act.put,qset])
 refine zAI ?_
 go_wp2_with fail
 refine (zF2 _ b t s so d who slot word 4 value HT.out).mono ?_
 rintro r w3 ⟨rfl,hT3,hK3⟩
 replace HT:=zI2 hT3
 replace HS:=zI2 (HS.out.own hK3)
 clear hT3 hK3
 have c0:=HT.out.at' 0 _ rfl
 have c1:=HT.out.at' 1 _ rfl
 have c2:=HT.out.at' 2 _ rfl
 have c3:=HT.out.at' 3 _ rfl
 have c4:=HT.out.at' 4 _ rfl
 have c5:=HT.out.at' 5 _ rfl
 have c6:=HT.out.at' 6 _ rfl
 have c7:=HT.out.at' 7 _ rfl
 have c8:=HT.out.at' 8 _ rfl
 have c9:=HT.out.at' 9 _ rfl
 have c10:=HT.out.at' 10 _ rfl
 have f7:=HT.out.fz 7
 have f9:=HT.out.fz 9
 have f10:=HT.out.fz 10
 go_wp2_with fail
 refine bodyPost_ret (v:=i64 1) (by simp [results,Tryz.results158,go_sem]) rfl ⟨rfl,_,HS.out.own ((Keep.refl _ _).own 7 _),(HT.out.set 7 (i64 5) : IsObj _ b (taL t s so d who slot word 5 value false 1))⟩
theorem zHz (w : World) (b : Nat) (t s so d who slot word next value : Int) (hT : IsObj w b (taL t s so d who slot word next value true 0)) :
  Calls Tryz.prog 175 #[pt b] w fun r w'=>r = .returned (.tuple #[]) ∧ IsObj w' b (taL t s so d who slot word next value true 2) ∧ Keep (· = b) w w':=by
 have c9:=hT.at' 9 _ rfl
 have c10:=hT.at' 10 _ rfl
 have f10:=hT.fz 10
 have HT:=zI2 hT
 clear hT
 go_enter Tryz.func175,Tryz.ntmps175
 go_wp2
 go_end0
 exact ⟨rfl,((HT.out.set 10 (i64 1)).set 10 (i64 2) : IsObj _ b (taL t s so d who slot word next value true 2)),((Keep.refl _ _).own 10 _).own 10 _⟩
theorem zE4 (hz : Nat) (hhz : 2 * n + who = (hz : Int)) (y : Int) (hy : C[hz]? = some y) (hT : IsObj w b (taL t s so d who slot word 4 value true 0)) (hl : Lay t s n) (w0 : 0 ≤ who) (w1 : who < t) (s0 : 0 ≤ slot) (s1 : slot < n) (x0 : 0 ≤ word) (x1 : word ≤ 18446744073709551615) (hM : IsMem base w p c v C L) (ha : ¬ Foot p c v b) (hb : base ≤ w.heap.size) (hL : L.length < 1000000000) :
  Calls Tryz.prog 158 #[pt b,pt p] w (TaPost base w b p c v (taL t s so d who slot word 4 value true 2) (C.set hz 0) (L ++ [⟨who,1,hz,y,0,true⟩]) (.returned (i64 2))):=by
 have hn1:=hl.n1; have hn2:=hl.n2; have ht1:=hl.t1; have ht2:=hl.t2
 have HS:=zI2 (Does.refl (B:=(· = b)) hM (fun i hi=>hi ▸ ha) hb)
 have hA : AtTa w.drew b t s so d who slot word:=hT.drew.ta
 have HT:=zI2 hT
 have HHZ:=zI2 hhz
 have HY:=zI2 hy
 clear hhz hy
 clear hM ha
 have c0:=hT.at' 7 _ rfl
 have c1:=hT.at' 10 _ rfl
 have c2:=hT.at' 6 _ rfl
 clear hT
 go_enter Tryz.func158,Tryz.ntmps158
 go_wp2_with fail
 clear c0 c1
 replace HT:=zI2 HT.out.drew
 replace HS:=zI2 HS.out.drew
 clear c2
 refine zAF ((fun w'=>AtTa w' b t s so d who slot word)) ((0,true) :: (1,true) :: (2,true) :: (3,true) :: (4,true) :: (5,true) :: (6,true) :: (7,true) :: (8,true) :: (9,true) :: (10,true) :: (11,true) :: (12,true) :: (13,false) :: (14,false) :: []) (by kernel_rfl) (by kernel_rfl) (by kernel_rfl) (by decide) (fun _ _ _ _ _ h=>h) (hA) ?_
 repeat ((first | (refine zAC (v := ?_) rfl ?_ ?_ ?_; rotate_left 1; rfl; focus (rintro wS ⟨c0,c1,c2,c3,c4,c5,c6⟩; go_simp <;> with_reducible rfl)) | (refine zAD rfl ?_ ?_; rfl)); try simp only [Act.put,qset])
 refine zAG rfl (fun K hK=>?_)
 go_simp
 go_at_call 110
 refine (zCi _ _ _ _ n _ hz _ hl w0 (by omega) HHZ.out).mono ?_
 rintro r w1 ⟨rfl,hb1⟩
 (try go_wp2_with fail)
 replace HT:=zI2 (HT.out.later hb1)
 replace HS:=zI2 (HS.out.later hb1)
 clear hb1
 refine hK.out _ _ (HT.out.ta) (fun _=>?_)
 (try simp only [Act.put,qset])
 clear hK K
 repeat ((first | (refine zAC (v := ?_) rfl ?_ ?_ ?_; rotate_left 1; rfl; focus (rintro wS ⟨c0,c1,c2,c3,c4,c5,c6⟩; go_simp <;> with_reducible rfl)) | (refine zAD rfl ?_ ?_; rfl)); try simp only [Act.put,qset])
 refine zAG rfl (fun K hK=>?_)
 go_simp
 go_at_call 123
 refine (zBS base _ p c _ _ _ who hz y 0 HS.out.mem HY.out HS.out.size hL (by omega) (by omega)).mono ?_
 rintro r w2 ⟨rfl,v2,hT2⟩
 (try go_wp2_with fail)
 have hlt1:=HT.out.lt
 replace HT:=zI2 (HT.out.keep hT2.keep (HS.out.apart b rfl))
 replace HS:=zI2 (HS.out.cells (fun i hi=>hi ▸ hlt1) hT2)
 clear hT2 hlt1
 refine hK.out _ _ (HT.out.ta) (fun _=>?_)
 (try simp only [Act.put,qset])
 clear hK K
 repeat ((first | (refine zAC (v := ?_) rfl ?_ ?_ ?_; rotate_left 1; rfl; focus (rintro wS ⟨c0,c1,c2,c3,c4,c5,c6⟩; go_simp <;> with_reducible rfl)) | (refine zAD rfl ?_ ?_; rfl)); try simp only [Act.put,qset])
 refine zAI ?_
 go_wp2_with fail
 refine (zHz _ b t s so d who slot word 4 value HT.out).mono ?_
 rintro r w3 ⟨rfl,hT3,hK3⟩
 replace HT:=zI2 hT3
 replace HS:=zI2 (HS.out.own hK3)
 clear hT3 hK3
 have c0:=HT.out.at' 0 _ rfl
 have c1:=HT.out.at' 1 _ rfl
 have c2:=HT.out.at' 2 _ rfl
 have c3:=HT.out.at' 3 _ rfl
 have c4:=HT.out.at' 4 _ rfl
 have c5:=HT.out.at' 5 _ rfl
 have c6:=HT.out.at' 6 _ rfl
 have c7:=HT.out.at' 7 _ rfl
 have c8:=HT.out.at' 8 _ rfl
 have c9:=HT.out.at' 9 _ rfl
 have c10:=HT.out.at' 10 _ rfl
 have f7:=HT.out.fz 7
 have f9:=HT.out.fz 9
 have f10:=HT.out.fz 10
 go_wp2_with fail
 refine bodyPost_ret (v:=i64 2) (by simp [results,Tryz.results158,go_sem]) rfl ⟨rfl,_,HS.out.own (((Keep.refl _ _).own 7 _).own 7 _),((HT.out.set 7 (i64 5)).set 7 (i64 4) : IsObj _ b (taL t s so d who slot word 4 value true 2))⟩
theorem zGl (next ph : Int) (lost : Bool) (hp : ph ≠ 0) (hT : IsObj w b (taL t s so d who slot word next value lost ph)) (hM : IsMem base w p c v C L) (ha : ¬ Foot p c v b) (hb : base ≤ w.heap.size) :
  Calls Tryz.prog 158 #[pt b,pt p] w (TaPost base w b p c v (taL t s so d who slot word next value lost ph) C L (.returned (i64 ph))):=by
 have HS:=zI2 (Does.refl (B:=(· = b)) hM (fun i hi=>hi ▸ ha) hb)
 have c10:=hT.at' 10 _ rfl
 have hq : (ph != 0) = true:=by simpa using hp
 have HT:=zI2 hT
 clear hT hp hM ha
 go_enter Tryz.func158,Tryz.ntmps158
 go_wp2
 refine bodyPost_ret (v:=i64 ph) (by simp [results,Tryz.results158,go_sem]) rfl ⟨rfl,_,HS.out,HT.out⟩
theorem zEx (next ph : Int) (lost : Bool) (hT : IsObj w b (taL t s so d who slot word next value lost ph)) :
  Calls Tryz.prog 130 #[pt b] w fun r w'=>r = .returned (u64 (if ph = 1 then value else 0)) ∧ w = w':=by
 have c10:=hT.at' 10 _ rfl
 have c8:=hT.at' 8 _ rfl
 clear hT
 by_cases h : ph = 1
 ·rw [if_pos h]
  have hq : (ph != 1) = false:=by simpa using h
  clear h
  go_enter Tryz.func130,Tryz.ntmps130
  go_wp2
  go_ret
  exact ⟨rfl,rfl⟩
 ·rw [if_neg h]
  have hq : (ph != 1) = true:=by simpa using h
  clear h
  go_enter Tryz.func130,Tryz.ntmps130
  go_wp2
  go_ret
  exact ⟨rfl,rfl⟩
theorem zFx :
  Calls Tryz.prog 157 #[cf t s so d,i64 who,i64 slot,u64 word] w fun r w' => ∃ b,r = .returned (pt b) ∧ IsObj w' b (taL t s so d who slot word 0 0 false 0) ∧ Below w.heap.size w w' ∧ w.heap.size ≤ b:=by
 go_enter Tryz.func157,Tryz.ntmps157
 go_wp2
 go_ret
 have h:=IsObj.made (w.alloc (.cells #[.int .i64 t,.int .i64 s,.int .i64 so,.int .i64 d] 24)) (taL t s so d who slot word 0 0 false 0) 221
 rw [show (w.alloc (.cells #[.int .i64 t,.int .i64 s,.int .i64 so,.int .i64 d] 24)).heap.size = w.heap.size + 1 by simp] at h
 exact ⟨_,rfl,h,zAB (zAB (Below.refl _ _) _) _,by simp⟩
end
end
section
structure Ta where
 t : Int
 s : Int
 so : Int
 d : Int
 who : Int
 slot : Int
 word : Int
 next : Int
 value : Int
 lost : Bool
 ph : Int
abbrev Ta.list (k : Ta) : List Value:=taL k.t k.s k.so k.d k.who k.slot k.word k.next k.value k.lost k.ph
def ta0 (t s so d who slot word : Int) : Ta:=⟨t,s,so,d,who,slot,word,0,0,false,0⟩
def Ta.go (k : Ta) (j jv : Nat) (C : List Int) : Ta :=
 if k.ph ≠ 0 then k else if k.next = 0 then { k with next:=1 } else if k.next = 1 then (if C.getD j 0 = k.word then { k with next:=2 } else { k with next:=4,lost:=true })
 else if k.next = 2 then { k with value:=C.getD jv 0,next:=3 } else if k.next = 3 then (if C.getD j 0 = k.word then { k with next:=4 } else { k with next:=4,lost:=true })
 else if k.lost = true then { k with ph:=2 } else { k with next:=5,ph:=1 }
def Ta.cells (k : Ta) (j hz : Nat) (C : List Int) : List Int :=
 if k.ph ≠ 0 then C else if k.next = 0 then C.set hz (k.slot + 1) else if k.next = 1 then C else if k.next = 2 then C else if k.next = 3 then (if C.getD j 0 = k.word then C.set j (tkW k.word) else C) else C.set hz 0
def Ta.ev (k : Ta) (j jv hz : Nat) (C : List Int) : List Ev :=
 if k.ph ≠ 0 then [] else if k.next = 0 then [⟨k.who,1,hz,C.getD hz 0,k.slot + 1,true⟩] else if k.next = 1 then [⟨k.who,0,j,C.getD j 0,C.getD j 0,true⟩]
 else if k.next = 2 then [⟨k.who,0,jv,C.getD jv 0,C.getD jv 0,true⟩] else if k.next = 3 then (if C.getD j 0 = k.word then [⟨k.who,2,j,k.word,tkW k.word,true⟩] else [⟨k.who,2,j,C.getD j 0,C.getD j 0,false⟩])
 else [⟨k.who,1,hz,C.getD hz 0,0,true⟩]
structure Ta.Ok (k : Ta) (n : Int) (j jv hz : Nat) (C : List Int) : Prop where
 lay : Lay k.t k.s n
 len : (C.length : Int) = 2 * n + 2 * k.t
 w0 : 0 ≤ k.who
 w1 : k.who < k.t
 s0 : 0 ≤ k.slot
 s1 : k.slot < n
 hj : k.slot = (j : Int)
 hjv : n + k.slot = (jv : Int)
 hhz : 2 * n + k.who = (hz : Int)
 x0 : 0 ≤ k.word
 x1 : k.word ≤ 18446744073709551615
 st : k.ph = 0 → (k.next = 0 ∧ k.lost = false) ∨ (k.next = 1 ∧ k.lost = false) ∨ (k.next = 2 ∧ k.lost = false) ∨ (k.next = 3 ∧ k.lost = false) ∨ k.next = 4
theorem zDM {C : List Int} {i : Nat} (h : i < C.length) : C[i]? = some (C.getD i 0):=by
 rw [List.getD_eq_getElem?_getD,List.getElem?_eq_getElem h]
 rfl
section
variable (base : Nat) (w : World) (b p c : Nat) (v : Value) (C : List Int) (L : List Ev) (k : Ta) (n : Int) (j jv hz : Nat)
theorem zFF (hk : k.Ok n j jv hz C) (hT : IsObj w b k.list) (hM : IsMem base w p c v C L) (ha : ¬ Foot p c v b) (hb : base ≤ w.heap.size) (hL : L.length < 1000000000) :
  Calls Tryz.prog 158 #[pt b,pt p] w (TaPost base w b p c v (k.go j jv C).list (k.cells j hz C) (L ++ k.ev j jv hz C) (.returned (i64 (k.go j jv C).ph))):=by
 obtain ⟨hl,hlen,w0,w1,s0,s1,hj,hjv,hhz,x0,x1,st⟩:=hk
 have hn1:=hl.n1; have ht1:=hl.t1
 have g1 : C[j]? = some (C.getD j 0):=zDM (by omega)
 have g2 : C[jv]? = some (C.getD jv 0):=zDM (by omega)
 have g3 : C[hz]? = some (C.getD hz 0):=zDM (by omega)
 unfold Ta.go Ta.cells Ta.ev
 by_cases hp : k.ph ≠ 0
 ·rw [if_pos hp,if_pos hp,if_pos hp,List.append_nil]
  exact zGl base w b p c v C L k.t k.s k.so k.d k.who k.slot k.word k.value k.next k.ph k.lost hp hT hM ha hb
 ·rw [if_neg hp,if_neg hp,if_neg hp]
  have hp0 : k.ph = 0:=Classical.not_not.1 hp
  rcases st hp0 with ⟨h,hlo⟩ | ⟨h,hlo⟩ | ⟨h,hlo⟩ | ⟨h,hlo⟩ | h
  ·rw [if_pos h,if_pos h,if_pos h]
   unfold Ta.list at hT ⊢
   rw [h,hlo,hp0] at hT
   simp only [hlo,hp0]
   exact take_0 base w b p c v C L k.t k.s k.so k.d k.who k.slot k.word k.value n hz hhz _ g3 hT hl w0 w1 s0 s1 x0 x1 hM ha hb hL
  ·have h0 : ¬ k.next = 0:=by omega
   rw [if_neg h0,if_neg h0,if_neg h0,if_pos h,if_pos h,if_pos h]
   unfold Ta.list at hT ⊢
   rw [h,hlo,hp0] at hT
   by_cases hw : C.getD j 0 = k.word
   ·rw [if_pos hw]
    simp only [hlo,hp0]
    exact zFC base w b p c v C L k.t k.s k.so k.d k.who k.slot k.word k.value n j hj _ g1 hw hT hl w0 w1 s0 s1 x0 x1 hM ha hb hL
   ·rw [if_neg hw]
    simp only [hp0]
    exact zES base w b p c v C L k.t k.s k.so k.d k.who k.slot k.word k.value n j hj _ g1 hw hT hl w0 w1 s0 s1 x0 x1 hM ha hb hL
  ·have h0 : ¬ k.next = 0:=by omega
   have h1 : ¬ k.next = 1:=by omega
   rw [if_neg h0,if_neg h0,if_neg h0,if_neg h1,if_neg h1,if_neg h1,if_pos h,if_pos h,if_pos h]
   unfold Ta.list at hT ⊢
   rw [h,hlo,hp0] at hT
   simp only [hlo,hp0]
   exact take_2 base w b p c v C L k.t k.s k.so k.d k.who k.slot k.word k.value n jv hjv _ g2 hT hl w0 w1 s0 s1 x0 x1 hM ha hb hL
  ·have h0 : ¬ k.next = 0:=by omega
   have h1 : ¬ k.next = 1:=by omega
   have h2 : ¬ k.next = 2:=by omega
   rw [if_neg h0,if_neg h0,if_neg h0,if_neg h1,if_neg h1,if_neg h1,if_neg h2,if_neg h2,if_neg h2,if_pos h,if_pos h,if_pos h]
   unfold Ta.list at hT ⊢
   rw [h,hlo,hp0] at hT
   by_cases hw : C.getD j 0 = k.word
   ·rw [if_pos hw,if_pos hw,if_pos hw]
    simp only [hlo,hp0]
    exact zFB base w b p c v C L k.t k.s k.so k.d k.who k.slot k.word k.value n j hj (hw ▸ g1) hT hl w0 w1 s0 s1 x0 x1 hM ha hb hL
   ·rw [if_neg hw,if_neg hw,if_neg hw]
    simp only [hp0]
    exact zEY base w b p c v C L k.t k.s k.so k.d k.who k.slot k.word k.value n j hj _ g1 hw hT hl w0 w1 s0 s1 x0 x1 hM ha hb hL
  ·have h0 : ¬ k.next = 0:=by omega
   have h1 : ¬ k.next = 1:=by omega
   have h2 : ¬ k.next = 2:=by omega
   have h3 : ¬ k.next = 3:=by omega
   rw [if_neg h0,if_neg h0,if_neg h0,if_neg h1,if_neg h1,if_neg h1,if_neg h2,if_neg h2,if_neg h2,if_neg h3,if_neg h3,if_neg h3]
   unfold Ta.list at hT ⊢
   rw [h,hp0] at hT
   cases hlo : k.lost with
   | false =>
    rw [hlo] at hT
    simp only [Bool.false_eq_true,if_false]
    exact zEJ base w b p c v C L k.t k.s k.so k.d k.who k.slot k.word k.value n hz hhz _ g3 hT hl w0 w1 s0 s1 x0 x1 hM ha hb hL
   | true =>
    rw [hlo] at hT
    simp only [h,if_true]
    exact zE4 base w b p c v C L k.t k.s k.so k.d k.who k.slot k.word k.value n hz hhz _ g3 hT hl w0 w1 s0 s1 x0 x1 hM ha hb hL
end
section
variable {W w w' : World} {p c b : Nat} {v v' : Value} {C C' : List Int} {L L' : List Ev} {k k' : Ta} {R : List Thing}
end
theorem Ta.ev_le (k : Ta) (j jv hz : Nat) (C : List Int) : (k.ev j jv hz C).length ≤ 1:=by
 unfold Ta.ev
 repeat' split
 all_goals simp
theorem Ta.cells_len (k : Ta) (j hz : Nat) (C : List Int) : (k.cells j hz C).length = C.length:=by
 unfold Ta.cells
 repeat' split
 all_goals simp
structure Ta.Same (k k' : Ta) : Prop where
 t : k'.t = k.t
 s : k'.s = k.s
 who : k'.who = k.who
 slot : k'.slot = k.slot
 word : k'.word = k.word
theorem Ta.go_same (k : Ta) (j jv : Nat) (C : List Int) : k.Same (k.go j jv C):=by
 unfold Ta.go
 repeat' split
 all_goals exact ⟨rfl,rfl,rfl,rfl,rfl⟩
theorem Ta.Ok.next {k : Ta} {n : Int} {j jv hz : Nat} {C C' : List Int} (h : k.Ok n j jv hz C) (hC : C'.length = C.length) : (k.go j jv C).Ok n j jv hz C':=by
 have e:=k.go_same j jv C
 obtain ⟨e1,e2,e3,e4,e5⟩:=e
 refine ⟨by rw [e1,e2]; exact h.lay,by rw [hC,e1]; exact h.len,by rw [e3]; exact h.w0,by rw [e3,e1]; exact h.w1,by rw [e4]; exact h.s0,by rw [e4]; exact h.s1,by rw [e4]; exact h.hj,by rw [e4]; exact h.hjv,by rw [e3]; exact h.hhz,by rw [e5]; exact h.x0,by rw [e5]; exact h.x1,fun hp=>?_⟩
 have st:=h.st
 unfold Ta.go at hp ⊢
 by_cases h0 : k.ph ≠ 0
 ·rw [if_pos h0] at hp
  exact absurd hp h0
 ·rw [if_neg h0] at hp ⊢
  rcases st (Classical.not_not.1 h0) with ⟨a,b⟩ | ⟨a,b⟩ | ⟨a,b⟩ | ⟨a,b⟩ | a
  ·rw [if_pos a] at hp ⊢
   exact .inr (.inl ⟨rfl,b⟩)
  ·rw [if_neg (by omega),if_pos a] at hp ⊢
   split
   ·exact .inr (.inr (.inl ⟨rfl,b⟩))
   ·exact .inr (.inr (.inr (.inr rfl)))
  ·rw [if_neg (by omega),if_neg (by omega),if_pos a] at hp ⊢
   exact .inr (.inr (.inr (.inl ⟨rfl,b⟩)))
  ·rw [if_neg (by omega),if_neg (by omega),if_neg (by omega),if_pos a] at hp ⊢
   split <;> exact .inr (.inr (.inr (.inr rfl)))
  ·rw [if_neg (by omega),if_neg (by omega),if_neg (by omega),if_neg (by omega)] at hp
   split at hp <;> cases hp
end
section
attribute [local go_sem ↓] fld0
theorem zFD {w : World} {b : Nat} {k : Ta} (x : Int) (hx : (if k.ph = 1 then k.value else 0) = x) (hT : IsObj w b k.list) : Calls Tryz.prog 130 #[pt b] w fun r w'=>r = .returned (u64 x) ∧ w = w' :=
 hx ▸ zEx w b k.t k.s k.so k.d k.who k.slot k.word k.value k.next k.ph k.lost hT
section
variable {W w w' : World} {p c b : Nat} {v v' : Value} {L : List Ev} {R : List Thing} {k0 : Ta} {C0 : List Int}
end
def hC : List Int:=[9,7,0,0]
def hU : Ta:=ta0 1 1 0 0 0 0 17
def hT : Ta:=ta0 1 1 0 0 0 0 9
end
section
section
variable {k : Ta} {j jv hz : Nat} {C : List Int}
theorem go_0 (hp : k.ph = 0) (h : k.next = 0) : k.go j jv C = { k with next:=1 } ∧ k.cells j hz C = C.set hz (k.slot + 1) ∧ k.ev j jv hz C = [⟨k.who,1,hz,C.getD hz 0,k.slot + 1,true⟩]:=by simp [Ta.go,Ta.cells,Ta.ev,hp,h]
theorem go_1y (hp : k.ph = 0) (h : k.next = 1) (hw : C.getD j 0 = k.word) : k.go j jv C = { k with next:=2 } ∧ k.cells j hz C = C ∧ k.ev j jv hz C = [⟨k.who,0,j,C.getD j 0,C.getD j 0,true⟩]:=by
 unfold Ta.go Ta.cells Ta.ev
 rw [hp,h]
 generalize C.getD j 0 = z at hw ⊢
 simp [hw]
theorem go_1n (hp : k.ph = 0) (h : k.next = 1) (hw : C.getD j 0 ≠ k.word) : k.go j jv C = { k with next:=4,lost:=true } ∧ k.cells j hz C = C ∧ k.ev j jv hz C = [⟨k.who,0,j,C.getD j 0,C.getD j 0,true⟩]:=by
 unfold Ta.go Ta.cells Ta.ev
 rw [hp,h]
 generalize C.getD j 0 = z at hw ⊢
 simp [hw]
theorem go_2 (hp : k.ph = 0) (h : k.next = 2) : k.go j jv C = { k with value:=C.getD jv 0,next:=3 } ∧ k.cells j hz C = C ∧ k.ev j jv hz C = [⟨k.who,0,jv,C.getD jv 0,C.getD jv 0,true⟩]:=by
 unfold Ta.go Ta.cells Ta.ev
 rw [hp,h]
 simp
theorem go_3y (hp : k.ph = 0) (h : k.next = 3) (hw : C.getD j 0 = k.word) : k.go j jv C = { k with next:=4 } ∧ k.cells j hz C = C.set j (tkW k.word) ∧ k.ev j jv hz C = [⟨k.who,2,j,k.word,tkW k.word,true⟩]:=by
 unfold Ta.go Ta.cells Ta.ev
 rw [hp,h]
 generalize C.getD j 0 = z at hw ⊢
 simp [hw]
theorem go_3n (hp : k.ph = 0) (h : k.next = 3) (hw : C.getD j 0 ≠ k.word) : k.go j jv C = { k with next:=4,lost:=true } ∧ k.cells j hz C = C ∧ k.ev j jv hz C = [⟨k.who,2,j,C.getD j 0,C.getD j 0,false⟩]:=by
 unfold Ta.go Ta.cells Ta.ev
 rw [hp,h]
 generalize C.getD j 0 = z at hw ⊢
 simp [hw]
theorem go_4y (hp : k.ph = 0) (h : k.next = 4) (hl : k.lost = false) : k.go j jv C = { k with next:=5,ph:=1 } ∧ k.cells j hz C = C.set hz 0 ∧ k.ev j jv hz C = [⟨k.who,1,hz,C.getD hz 0,0,true⟩]:=by
 unfold Ta.go Ta.cells Ta.ev
 rw [hp,h]
 simp [hl]
theorem go_4n (hp : k.ph = 0) (h : k.next = 4) (hl : k.lost = true) : k.go j jv C = { k with ph:=2 } ∧ k.cells j hz C = C.set hz 0 ∧ k.ev j jv hz C = [⟨k.who,1,hz,C.getD hz 0,0,true⟩]:=by
 unfold Ta.go Ta.cells Ta.ev
 rw [hp,h]
 simp [hl]
end
theorem zAK {C : List Int} {i j : Nat} (x : Int) (h : i ≠ j) : (C.set i x).getD j 0 = C.getD j 0:=by
 rw [List.getD_eq_getElem?_getD,List.getElem?_set_ne h, ← List.getD_eq_getElem?_getD]
theorem zAP {C : List Int} {i : Nat} (x : Int) (h : i < C.length) : (C.set i x).getD i 0 = x:=by
 rw [List.getD_eq_getElem?_getD,List.getElem?_set_self h]
 rfl
end
end
end Go.Proofs.YtebgjfhaolgcjaaGreat
