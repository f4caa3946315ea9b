/- Contracts and plain lemmas that these laws need. No condition. -/

import Derived.Test.YtebgjfhaolgcjaaGreatQLH1
import Derived.Test.YtebgjfhaolgcjaaGreatQLH3
namespace Go.Proofs.YtebgjfhaolgcjaaGreat
set_option linter.unusedVariables false
set_option maxHeartbeats 8000000
set_option maxRecDepth 100000
section
open Go.RowKit
section
theorem zCk (t s so d n i : Int) (j : Nat) (w : World) (h : Lay t s n) (i0 : 0 ≤ i) (i1 : i ≤ t) (hj : 2 * n + i = (j : Int)) :
  Calls Tryz.prog 110 #[cf t s so d,i64 i] w fun r w'=>r = .returned (i64 j) ∧ Below w.heap.size w w':=by
 rw [← hj]
 exact zCh t s so d n i w h i0 i1
theorem zHj (t s so d n i : Int) (j : Nat) (w : World) (h : Lay t s n) (i0 : 0 ≤ i) (i1 : i ≤ n) (hj : n + i = (j : Int)) :
  Calls Tryz.prog 80 #[cf t s so d,i64 i] w fun r w'=>r = .returned (i64 j) ∧ Below w.heap.size w w':=by
 rw [← hj]
 exact zBz t s so d n i w h i0 i1
theorem zDP (t s so d i : Int) (j : Nat) (w : World) (hj : i = (j : Int)) :
  Calls Tryz.prog 68 #[cf t s so d,i64 i] w fun r w'=>r = .returned (i64 j) ∧ Below w.heap.size w w':=by
 rw [← hj]
 exact zAW t s so d i w
def tkW (x : Int) : Int:=2 + 4 * (x / 4 % 2) + 8 * (x / 8 % 8192) + 65536 * (x / 65536 % 16777216) + 1099511627776 * (x / 1099511627776)
abbrev taL (t s so d who slot word next value : Int) (lost : Bool) (ph : Int) : List Value:=[i64 t,i64 s,i64 so,i64 d,i64 who,i64 slot,u64 word,i64 next,u64 value,.bool lost,i64 ph]
structure AtTa (w : World) (b : Nat) (t s so d who slot word : Int) : Prop where
 c0 : w.cell? ⟨b,0,none⟩ = some (i64 t)
 c1 : w.cell? ⟨b,1,none⟩ = some (i64 s)
 c2 : w.cell? ⟨b,2,none⟩ = some (i64 so)
 c3 : w.cell? ⟨b,3,none⟩ = some (i64 d)
 c4 : w.cell? ⟨b,4,none⟩ = some (i64 who)
 c5 : w.cell? ⟨b,5,none⟩ = some (i64 slot)
 c6 : w.cell? ⟨b,6,none⟩ = some (u64 word)
theorem IsObj.ta {w : World} {b : Nat} {t s so d who slot word : Int} {l : List Value} (h : IsObj w b (i64 t :: i64 s :: i64 so :: i64 d :: i64 who :: i64 slot :: u64 word :: l)) : AtTa w b t s so d who slot word :=
 ⟨h.at' 0 _ rfl,h.at' 1 _ rfl,h.at' 2 _ rfl,h.at' 3 _ rfl,h.at' 4 _ rfl,h.at' 5 _ rfl,h.at' 6 _ rfl⟩
def TaPost (base : Nat) (w : World) (b p c : Nat) (v : Value) (l : List Value) (C' : List Int) (L' : List Ev) (e0 : Ending) (e : Ending) (w' : World) : Prop :=
 e = e0 ∧ ∃ v',Does (· = b) base w w' p c v v' C' L' ∧ IsObj w' b l
section
variable (base : Nat) (w : World) (b p c : Nat) (v : Value) (C : List Int) (L : List Ev) (t s so d who slot word value n : Int)
theorem take_0 (hz : Nat) (hhz : 2 * n + who = (hz : Int)) (y : Int) (hy : C[hz]? = some y) (hT : IsObj w b (taL t s so d who slot word 0 value false 0)) (hl : Lay t s n) (w0 : 0 ≤ who) (w1 : who < t) (s0 : 0 ≤ slot) (s1 : slot < n) (x0 : 0 ≤ word) (x1 : word ≤ 18446744073709551615) (hM : IsMem base w p c v C L) (ha : ¬ Foot p c v b) (hb : base ≤ w.heap.size) (hL : L.length < 1000000000) :
  Calls Tryz.prog 158 #[pt b,pt p] w (TaPost base w b p c v (taL t s so d who slot word 1 value false 0) (C.set hz (slot + 1)) (L ++ [⟨who,1,hz,y,slot + 1,true⟩]) (.returned (i64 0))):=by
 have hn1:=hl.n1; have hn2:=hl.n2; have ht1:=hl.t1; have ht2:=hl.t2
 have HS:=zIn (Does.refl (B:=(· = b)) hM (fun i hi=>hi ▸ ha) hb)
 have hA : AtTa w.drew b t s so d who slot word:=hT.drew.ta
 have HT:=zIn hT
 have HHZ:=zIn hhz
 have HY:=zIn hy
 have hu1 : IntKind.u64.wrap slot = slot:=by rw [IntKind.wrap_u64]; omega
 have hu2 : IntKind.u64.wrap (slot + 1) = slot + 1:=by rw [IntKind.wrap_u64]; omega
 clear hhz hy
 clear hM ha
 have c0:=hT.at' 7 _ rfl
 have c1:=hT.at' 10 _ rfl
 have c2:=hT.at' 6 _ rfl
 clear hT
 go_enter Tryz.func158,Tryz.ntmps158
 go_wp2_with fail
 clear c0 c1
 replace HT:=zIn HT.out.drew
 replace HS:=zIn HS.out.drew
 clear c2
 refine zAD ((fun w'=>AtTa w' b t s so d who slot word)) ((0,true) :: (1,true) :: (2,true) :: (3,true) :: (4,true) :: (5,true) :: (6,true) :: (7,true) :: (8,true) :: (9,true) :: (10,true) :: (11,true) :: (12,true) :: (14,true) :: (15,true) :: (16,true) :: (17,true) :: (18,true) :: (19,true) :: (13,false) :: (20,false) :: []) (by kernel_rfl) (by kernel_rfl) (by kernel_rfl) (by decide) (fun _ _ _ _ _ h=>h) (hA) ?_
 repeat ((first | (refine zAB (v := ?_) rfl ?_ ?_ ?_; rotate_left 1; rfl; focus (rintro wS ⟨c0,c1,c2,c3,c4,c5,c6⟩; go_simp <;> with_reducible rfl)) | (refine zAC rfl ?_ ?_; rfl)); try simp only [Act.put,qset])
 refine zAG rfl (fun K hK=>?_)
 go_simp
 go_at_call 110
 refine (zCk _ _ _ _ n _ hz _ hl w0 (by omega) HHZ.out).mono ?_
 rintro r w1 ⟨rfl,hb1⟩
 (try go_wp2_with fail)
 replace HT:=zIn (HT.out.later hb1)
 replace HS:=zIn (HS.out.later hb1)
 clear hb1
 refine hK.out _ _ (HT.out.ta) (fun _=>?_)
 (try simp only [Act.put,qset])
 clear hK K
 repeat ((first | (refine zAB (v := ?_) rfl ?_ ?_ ?_; rotate_left 1; rfl; focus (rintro wS ⟨c0,c1,c2,c3,c4,c5,c6⟩; go_simp <;> with_reducible rfl)) | (refine zAC rfl ?_ ?_; rfl)); try simp only [Act.put,qset])
 refine zAG rfl (fun K hK=>?_)
 go_simp
 go_at_call 123
 refine (zBN base _ p c _ _ _ who hz y (slot + 1) HS.out.mem HY.out HS.out.size hL (by omega) (by omega)).mono ?_
 rintro r w2 ⟨rfl,v2,hT2⟩
 (try go_wp2_with fail)
 have hlt1:=HT.out.lt
 replace HT:=zIn (HT.out.keep hT2.keep (HS.out.apart b rfl))
 replace HS:=zIn (HS.out.cells (fun i hi=>hi ▸ hlt1) hT2)
 clear hT2 hlt1
 refine hK.out _ _ (HT.out.ta) (fun _=>?_)
 (try simp only [Act.put,qset])
 clear hK K
 repeat ((first | (refine zAB (v := ?_) rfl ?_ ?_ ?_; rotate_left 1; rfl; focus (rintro wS ⟨c0,c1,c2,c3,c4,c5,c6⟩; go_simp <;> with_reducible rfl)) | (refine zAC rfl ?_ ?_; rfl)); try simp only [Act.put,qset])
 refine zAI ?_
 have c0:=HT.out.at' 0 _ rfl
 have c1:=HT.out.at' 1 _ rfl
 have c2:=HT.out.at' 2 _ rfl
 have c3:=HT.out.at' 3 _ rfl
 have c4:=HT.out.at' 4 _ rfl
 have c5:=HT.out.at' 5 _ rfl
 have c6:=HT.out.at' 6 _ rfl
 have c7:=HT.out.at' 7 _ rfl
 have c8:=HT.out.at' 8 _ rfl
 have c9:=HT.out.at' 9 _ rfl
 have c10:=HT.out.at' 10 _ rfl
 have f7:=HT.out.fz 7
 have f9:=HT.out.fz 9
 have f10:=HT.out.fz 10
 go_wp2_with fail
 refine bodyPost_ret (v:=i64 0) (by simp [results,Tryz.results158,go_sem]) rfl ⟨rfl,_,HS.out.own ((Keep.refl _ _).own 7 _),(HT.out.set 7 (i64 1) : IsObj _ b (taL t s so d who slot word 1 value false 0))⟩
theorem zE7 (j : Nat) (hj : slot = (j : Int)) (y : Int) (hy : C[j]? = some y) (hyw : y = word) (hT : IsObj w b (taL t s so d who slot word 1 value false 0)) (hl : Lay t s n) (w0 : 0 ≤ who) (w1 : who < t) (s0 : 0 ≤ slot) (s1 : slot < n) (x0 : 0 ≤ word) (x1 : word ≤ 18446744073709551615) (hM : IsMem base w p c v C L) (ha : ¬ Foot p c v b) (hb : base ≤ w.heap.size) (hL : L.length < 1000000000) :
  Calls Tryz.prog 158 #[pt b,pt p] w (TaPost base w b p c v (taL t s so d who slot word 2 value false 0) C (L ++ [⟨who,0,j,y,y,true⟩]) (.returned (i64 0))):=by
 have hn1:=hl.n1; have hn2:=hl.n2; have ht1:=hl.t1; have ht2:=hl.t2
 have HS:=zIn (Does.refl (B:=(· = b)) hM (fun i hi=>hi ▸ ha) hb)
 have hA : AtTa w.drew b t s so d who slot word:=hT.drew.ta
 have HT:=zIn hT
 have HJ:=zIn hj
 have HY:=zIn hy
 have hq : (y != word) = false:=by simp [hyw]
 clear hj hy hyw
 clear hM ha
 have c0:=hT.at' 7 _ rfl
 have c1:=hT.at' 10 _ rfl
 have c2:=hT.at' 6 _ rfl
 clear hT
 go_enter Tryz.func158,Tryz.ntmps158
 go_wp2_with fail
 clear c0 c1
 replace HT:=zIn HT.out.drew
 replace HS:=zIn HS.out.drew
 clear c2
 refine zAD ((fun w'=>AtTa w' b t s so d who slot word)) ((0,true) :: (1,true) :: (2,true) :: (3,true) :: (4,true) :: (5,true) :: (6,true) :: (7,true) :: (8,true) :: (9,true) :: (10,true) :: (11,true) :: (12,true) :: (13,true) :: (16,true) :: (17,true) :: (18,true) :: (19,true) :: (14,false) :: (15,false) :: (20,true) :: (21,true) :: (22,true) :: (23,false) :: []) (by kernel_rfl) (by kernel_rfl) (by kernel_rfl) (by decide) (fun _ _ _ _ _ h=>h) (hA) ?_
 repeat ((first | (refine zAB (v := ?_) rfl ?_ ?_ ?_; rotate_left 1; rfl; focus (rintro wS ⟨c0,c1,c2,c3,c4,c5,c6⟩; go_simp <;> with_reducible rfl)) | (refine zAC rfl ?_ ?_; rfl)); try simp only [Act.put,qset])
 refine zAG rfl (fun K hK=>?_)
 go_simp
 go_at_call 68
 refine (zDP _ _ _ _ _ j _ HJ.out).mono ?_
 rintro r w1 ⟨rfl,hb1⟩
 (try go_wp2_with fail)
 replace HT:=zIn (HT.out.later hb1)
 replace HS:=zIn (HS.out.later hb1)
 clear hb1
 refine hK.out _ _ (HT.out.ta) (fun _=>?_)
 (try simp only [Act.put,qset])
 clear hK K
 repeat ((first | (refine zAB (v := ?_) rfl ?_ ?_ ?_; rotate_left 1; rfl; focus (rintro wS ⟨c0,c1,c2,c3,c4,c5,c6⟩; go_simp <;> with_reducible rfl)) | (refine zAC rfl ?_ ?_; rfl)); try simp only [Act.put,qset])
 refine zAG rfl (fun K hK=>?_)
 go_simp
 go_at_call 164
 refine (zAs base _ p c _ _ _ who j y HS.out.mem HY.out HS.out.size hL).mono ?_
 rintro r w2 ⟨rfl,v2,hT2⟩
 (try go_wp2_with fail)
 have hlt1:=HT.out.lt
 replace HT:=zIn (HT.out.keep hT2.keep (HS.out.apart b rfl))
 replace HS:=zIn (HS.out.cells (fun i hi=>hi ▸ hlt1) hT2)
 clear hT2 hlt1
 refine hK.out _ _ (HT.out.ta) (fun _=>?_)
 (try simp only [Act.put,qset])
 clear hK K
 repeat ((first | (refine zAB (v := ?_) rfl ?_ ?_ ?_; rotate_left 1; rfl; focus (rintro wS ⟨c0,c1,c2,c3,c4,c5,c6⟩; go_simp <;> with_reducible rfl)) | (refine zAC rfl ?_ ?_; rfl)); try simp only [Act.put,qset])
 have c9:=HT.out.at' 9 _ rfl
 have f9:=HT.out.fz 9
 refine zAG rfl (fun K hK=>?_)
 go_simp
 replace HT : Hid (IsObj _ b (taL t s so d who slot word 1 value false 0)):=zIn (HT.out.set 9 (.bool false))
 replace HS:=zIn (HS.out.own ((Keep.refl _ _).own 9 (.bool false)))
 clear c9 f9
 refine hK.out _ _ (HT.out.ta) (fun _=>?_)
 (try simp only [Act.put,qset])
 clear hK K
 refine zAI ?_
 have c0:=HT.out.at' 0 _ rfl
 have c1:=HT.out.at' 1 _ rfl
 have c2:=HT.out.at' 2 _ rfl
 have c3:=HT.out.at' 3 _ rfl
 have c4:=HT.out.at' 4 _ rfl
 have c5:=HT.out.at' 5 _ rfl
 have c6:=HT.out.at' 6 _ rfl
 have c7:=HT.out.at' 7 _ rfl
 have c8:=HT.out.at' 8 _ rfl
 have c9:=HT.out.at' 9 _ rfl
 have c10:=HT.out.at' 10 _ rfl
 have f7:=HT.out.fz 7
 have f9:=HT.out.fz 9
 have f10:=HT.out.fz 10
 go_wp2_with fail
 refine bodyPost_ret (v:=i64 0) (by simp [results,Tryz.results158,go_sem]) rfl ⟨rfl,_,HS.out.own ((Keep.refl _ _).own 7 _),(HT.out.set 7 (i64 2) : IsObj _ b (taL t s so d who slot word 2 value false 0))⟩
theorem zEo (j : Nat) (hj : slot = (j : Int)) (y : Int) (hy : C[j]? = some y) (hyw : y ≠ word) (hT : IsObj w b (taL t s so d who slot word 1 value false 0)) (hl : Lay t s n) (w0 : 0 ≤ who) (w1 : who < t) (s0 : 0 ≤ slot) (s1 : slot < n) (x0 : 0 ≤ word) (x1 : word ≤ 18446744073709551615) (hM : IsMem base w p c v C L) (ha : ¬ Foot p c v b) (hb : base ≤ w.heap.size) (hL : L.length < 1000000000) :
  Calls Tryz.prog 158 #[pt b,pt p] w (TaPost base w b p c v (taL t s so d who slot word 4 value true 0) C (L ++ [⟨who,0,j,y,y,true⟩]) (.returned (i64 0))):=by
 have hn1:=hl.n1; have hn2:=hl.n2; have ht1:=hl.t1; have ht2:=hl.t2
 have HS:=zIn (Does.refl (B:=(· = b)) hM (fun i hi=>hi ▸ ha) hb)
 have hA : AtTa w.drew b t s so d who slot word:=hT.drew.ta
 have HT:=zIn hT
 have HJ:=zIn hj
 have HY:=zIn hy
 have hq : (y != word) = true:=by simp [hyw]
 clear hj hy hyw
 clear hM ha
 have c0:=hT.at' 7 _ rfl
 have c1:=hT.at' 10 _ rfl
 have c2:=hT.at' 6 _ rfl
 clear hT
 go_enter Tryz.func158,Tryz.ntmps158
 go_wp2_with fail
 clear c0 c1
 replace HT:=zIn HT.out.drew
 replace HS:=zIn HS.out.drew
 clear c2
 refine zAD ((fun w'=>AtTa w' b t s so d who slot word)) ((0,true) :: (1,true) :: (2,true) :: (3,true) :: (4,true) :: (5,true) :: (6,true) :: (7,true) :: (8,true) :: (9,true) :: (10,true) :: (11,true) :: (12,true) :: (13,true) :: (16,true) :: (17,true) :: (18,true) :: (19,true) :: (14,false) :: (15,false) :: (20,true) :: (21,true) :: (22,true) :: (23,false) :: []) (by kernel_rfl) (by kernel_rfl) (by kernel_rfl) (by decide) (fun _ _ _ _ _ h=>h) (hA) ?_
 repeat ((first | (refine zAB (v := ?_) rfl ?_ ?_ ?_; rotate_left 1; rfl; focus (rintro wS ⟨c0,c1,c2,c3,c4,c5,c6⟩; go_simp <;> with_reducible rfl)) | (refine zAC rfl ?_ ?_; rfl)); try simp only [Act.put,qset])
 refine zAG rfl (fun K hK=>?_)
 go_simp
 go_at_call 68
 refine (zDP _ _ _ _ _ j _ HJ.out).mono ?_
 rintro r w1 ⟨rfl,hb1⟩
 (try go_wp2_with fail)
 replace HT:=zIn (HT.out.later hb1)
 replace HS:=zIn (HS.out.later hb1)
 clear hb1
 refine hK.out _ _ (HT.out.ta) (fun _=>?_)
 (try simp only [Act.put,qset])
 clear hK K
 repeat ((first | (refine zAB (v := ?_) rfl ?_ ?_ ?_; rotate_left 1; rfl; focus (rintro wS ⟨c0,c1,c2,c3,c4,c5,c6⟩; go_simp <;> with_reducible rfl)) | (refine zAC rfl ?_ ?_; rfl)); try simp only [Act.put,qset])
 refine zAG rfl (fun K hK=>?_)
 go_simp
 go_at_call 164
 refine (zAs base _ p c _ _ _ who j y HS.out.mem HY.out HS.out.size hL).mono ?_
 rintro r w2 ⟨rfl,v2,hT2⟩
 (try go_wp2_with fail)
 have hlt1:=HT.out.lt
 replace HT:=zIn (HT.out.keep hT2.keep (HS.out.apart b rfl))
 replace HS:=zIn (HS.out.cells (fun i hi=>hi ▸ hlt1) hT2)
 clear hT2 hlt1
 refine hK.out _ _ (HT.out.ta) (fun _=>?_)
 (try simp only [Act.put,qset])
 clear hK K
 repeat ((first | (refine zAB (v := ?_) rfl ?_ ?_ ?_; rotate_left 1; rfl; focus (rintro wS ⟨c0,c1,c2,c3,c4,c5,c6⟩; go_simp <;> with_reducible rfl)) | (refine zAC rfl ?_ ?_; rfl)); try simp only [Act.put,qset])
 have c9:=HT.out.at' 9 _ rfl
 have f9:=HT.out.fz 9
 refine zAG rfl (fun K hK=>?_)
 go_simp
 replace HT : Hid (IsObj _ b (taL t s so d who slot word 1 value true 0)):=zIn (HT.out.set 9 (.bool true))
 replace HS:=zIn (HS.out.own ((Keep.refl _ _).own 9 (.bool true)))
 clear c9 f9
 refine hK.out _ _ (HT.out.ta) (fun _=>?_)
 (try simp only [Act.put,qset])
 clear hK K
 refine zAI ?_
 have c0:=HT.out.at' 0 _ rfl
 have c1:=HT.out.at' 1 _ rfl
 have c2:=HT.out.at' 2 _ rfl
 have c3:=HT.out.at' 3 _ rfl
 have c4:=HT.out.at' 4 _ rfl
 have c5:=HT.out.at' 5 _ rfl
 have c6:=HT.out.at' 6 _ rfl
 have c7:=HT.out.at' 7 _ rfl
 have c8:=HT.out.at' 8 _ rfl
 have c9:=HT.out.at' 9 _ rfl
 have c10:=HT.out.at' 10 _ rfl
 have f7:=HT.out.fz 7
 have f9:=HT.out.fz 9
 have f10:=HT.out.fz 10
 go_wp2_with fail
 refine bodyPost_ret (v:=i64 0) (by simp [results,Tryz.results158,go_sem]) rfl ⟨rfl,_,HS.out.own (((Keep.refl _ _).own 7 _).own 7 _),((HT.out.set 7 (i64 2)).set 7 (i64 4) : IsObj _ b (taL t s so d who slot word 4 value true 0))⟩
theorem take_2 (j : Nat) (hj : n + slot = (j : Int)) (y : Int) (hy : C[j]? = some y) (hT : IsObj w b (taL t s so d who slot word 2 value false 0)) (hl : Lay t s n) (w0 : 0 ≤ who) (w1 : who < t) (s0 : 0 ≤ slot) (s1 : slot < n) (x0 : 0 ≤ word) (x1 : word ≤ 18446744073709551615) (hM : IsMem base w p c v C L) (ha : ¬ Foot p c v b) (hb : base ≤ w.heap.size) (hL : L.length < 1000000000) :
  Calls Tryz.prog 158 #[pt b,pt p] w (TaPost base w b p c v (taL t s so d who slot word 3 y false 0) C (L ++ [⟨who,0,j,y,y,true⟩]) (.returned (i64 0))):=by
 have hn1:=hl.n1; have hn2:=hl.n2; have ht1:=hl.t1; have ht2:=hl.t2
 have HS:=zIn (Does.refl (B:=(· = b)) hM (fun i hi=>hi ▸ ha) hb)
 have hA : AtTa w.drew b t s so d who slot word:=hT.drew.ta
 have HT:=zIn hT
 have HJ:=zIn hj
 have HY:=zIn hy
 clear hj hy
 clear hM ha
 have c0:=hT.at' 7 _ rfl
 have c1:=hT.at' 10 _ rfl
 have c2:=hT.at' 6 _ rfl
 clear hT
 go_enter Tryz.func158,Tryz.ntmps158
 go_wp2_with fail
 clear c0 c1
 replace HT:=zIn HT.out.drew
 replace HS:=zIn HS.out.drew
 clear c2
 refine zAD ((fun w'=>AtTa w' b t s so d who slot word)) ((0,true) :: (1,true) :: (2,true) :: (3,true) :: (4,true) :: (5,true) :: (6,true) :: (7,true) :: (8,true) :: (9,true) :: (10,true) :: (11,true) :: (12,true) :: (13,true) :: (14,false) :: (15,false) :: (16,true) :: (17,true) :: (18,false) :: []) (by kernel_rfl) (by kernel_rfl) (by kernel_rfl) (by decide) (fun _ _ _ _ _ h=>h) (hA) ?_
 repeat ((first | (refine zAB (v := ?_) rfl ?_ ?_ ?_; rotate_left 1; rfl; focus (rintro wS ⟨c0,c1,c2,c3,c4,c5,c6⟩; go_simp <;> with_reducible rfl)) | (refine zAC rfl ?_ ?_; rfl)); try simp only [Act.put,qset])
 refine zAG rfl (fun K hK=>?_)
 go_simp
 go_at_call 80
 refine (zHj _ _ _ _ n _ j _ hl s0 (by omega) HJ.out).mono ?_
 rintro r w1 ⟨rfl,hb1⟩
 (try go_wp2_with fail)
 replace HT:=zIn (HT.out.later hb1)
 replace HS:=zIn (HS.out.later hb1)
 clear hb1
 refine hK.out _ _ (HT.out.ta) (fun _=>?_)
 (try simp only [Act.put,qset])
 clear hK K
 repeat ((first | (refine zAB (v := ?_) rfl ?_ ?_ ?_; rotate_left 1; rfl; focus (rintro wS ⟨c0,c1,c2,c3,c4,c5,c6⟩; go_simp <;> with_reducible rfl)) | (refine zAC rfl ?_ ?_; rfl)); try simp only [Act.put,qset])
 refine zAG rfl (fun K hK=>?_)
 go_simp
 go_at_call 164
 refine (zAs base _ p c _ _ _ who j y HS.out.mem HY.out HS.out.size hL).mono ?_
 rintro r w2 ⟨rfl,v2,hT2⟩
 (try go_wp2_with fail)
 have hlt1:=HT.out.lt
 replace HT:=zIn (HT.out.keep hT2.keep (HS.out.apart b rfl))
 replace HS:=zIn (HS.out.cells (fun i hi=>hi ▸ hlt1) hT2)
 clear hT2 hlt1
 refine hK.out _ _ (HT.out.ta) (fun _=>?_)
 (try simp only [Act.put,qset])
 clear hK K
 repeat ((first | (refine zAB (v := ?_) rfl ?_ ?_ ?_; rotate_left 1; rfl; focus (rintro wS ⟨c0,c1,c2,c3,c4,c5,c6⟩; go_simp <;> with_reducible rfl)) | (refine zAC rfl ?_ ?_; rfl)); try simp only [Act.put,qset])
 have c8:=HT.out.at' 8 _ rfl
 have f8:=HT.out.fz 8
 refine zAG rfl (fun K hK=>?_)
 go_simp
 replace HT : Hid (IsObj _ b (taL t s so d who slot word 2 y false 0)):=zIn (HT.out.set 8 (u64 y))
 replace HS:=zIn (HS.out.own ((Keep.refl _ _).own 8 (u64 y)))
 clear c8 f8
 refine hK.out _ _ (HT.out.ta) (fun _=>?_)
 (try simp only [Act.put,qset])
 clear hK K
 refine zAI ?_
 have c0:=HT.out.at' 0 _ rfl
 have c1:=HT.out.at' 1 _ rfl
 have c2:=HT.out.at' 2 _ rfl
 have c3:=HT.out.at' 3 _ rfl
 have c4:=HT.out.at' 4 _ rfl
 have c5:=HT.out.at' 5 _ rfl
 have c6:=HT.out.at' 6 _ rfl
 have c7:=HT.out.at' 7 _ rfl
 have c8:=HT.out.at' 8 _ rfl
 have c9:=HT.out.at' 9 _ rfl
 have c10:=HT.out.at' 10 _ rfl
 have f7:=HT.out.fz 7
 have f9:=HT.out.fz 9
 have f10:=HT.out.fz 10
 go_wp2_with fail
 refine bodyPost_ret (v:=i64 0) (by simp [results,Tryz.results158,go_sem]) rfl ⟨rfl,_,HS.out.own ((Keep.refl _ _).own 7 _),(HT.out.set 7 (i64 3) : IsObj _ b (taL t s so d who slot word 3 y false 0))⟩
theorem zFC (j : Nat) (hj : slot = (j : Int)) (hy : C[j]? = some word)  (hT : IsObj w b (taL t s so d who slot word 3 value false 0)) (hl : Lay t s n) (w0 : 0 ≤ who) (w1 : who < t) (s0 : 0 ≤ slot) (s1 : slot < n) (x0 : 0 ≤ word) (x1 : word ≤ 18446744073709551615) (hM : IsMem base w p c v C L) (ha : ¬ Foot p c v b) (hb : base ≤ w.heap.size) (hL : L.length < 1000000000) :
  Calls Tryz.prog 158 #[pt b,pt p] w (TaPost base w b p c v (taL t s so d who slot word 4 value false 0) (C.set j (tkW word)) (L ++ [⟨who,2,j,word,tkW word,true⟩]) (.returned (i64 0))):=by
 have hn1:=hl.n1; have hn2:=hl.n2; have ht1:=hl.t1; have ht2:=hl.t2
 have HS:=zIn (Does.refl (B:=(· = b)) hM (fun i hi=>hi ▸ ha) hb)
 have hA : AtTa w.drew b t s so d who slot word:=hT.drew.ta
 have HT:=zIn hT
 have HJ:=zIn hj
 have HY:=zIn hy
 clear hj hy
 obtain ⟨kw,hkw⟩ : ∃ kw : Int,tkW word = kw:=⟨_,rfl⟩
 have hk0 : 0 ≤ kw ∧ kw ≤ 18446744073709551615:=by rw [← hkw]; unfold tkW; omega
 obtain ⟨hk0,hk1⟩:=hk0
 rw [hkw]
 have HKW:=zIn hkw
 clear hkw
 clear hM ha
 have c0:=hT.at' 7 _ rfl
 have c1:=hT.at' 10 _ rfl
 have c2:=hT.at' 6 _ rfl
 clear hT
 go_enter Tryz.func158,Tryz.ntmps158
 go_wp2_with fail
 clear c0 c1
 refine (zAi word _ x0 x1).mono ?_
 rintro r w1 ⟨rfl,hb1⟩
 replace HT:=zIn (HT.out.later hb1)
 replace HS:=zIn (HS.out.later hb1)
 clear hb1
 go_wp2_with fail
 refine (zEF _ _ _ _ _ _).mono ?_
 rintro r w1 ⟨rfl,hb1⟩
 replace HT:=zIn (HT.out.later hb1)
 replace HS:=zIn (HS.out.later hb1)
 clear hb1
 go_wp2_with fail
 refine (zBr 2 (word / 4 % 2) (word / 8 % 8192) (word / 65536 % 16777216) (word / 1099511627776) _ ⟨by omega,by omega,by omega,by omega,by omega,by omega,by omega,by omega,by omega,by omega⟩).mono ?_
 rintro r w1 ⟨rfl,hb1⟩
 replace HT:=zIn (HT.out.later hb1)
 replace HS:=zIn (HS.out.later hb1)
 clear hb1
 rw [show 2 + 4 * (word / 4 % 2) + 8 * (word / 8 % 8192) + 65536 * (word / 65536 % 16777216) + 1099511627776 * (word / 1099511627776) = kw from HKW.out]
 clear c2
 go_wp2_with fail
 have hA:=HT.out.drew.ta
 replace HT:=zIn HT.out.drew
 replace HS:=zIn HS.out.drew
 refine zAD ((fun w'=>AtTa w' b t s so d who slot word)) ((0,true) :: (1,true) :: (2,true) :: (3,true) :: (4,true) :: (5,true) :: (6,true) :: (7,true) :: (8,true) :: (9,true) :: (10,true) :: (11,true) :: (12,true) :: (13,true) :: (15,true) :: (16,true) :: (17,true) :: (18,true) :: (19,true) :: (14,false) :: (20,false) :: (21,true) :: (22,true) :: (23,true) :: (24,false) :: []) (by kernel_rfl) (by kernel_rfl) (by kernel_rfl) (by decide) (fun _ _ _ _ _ h=>h) (hA) ?_
 repeat ((first | (refine zAB (v := ?_) rfl ?_ ?_ ?_; rotate_left 1; rfl; focus (rintro wS ⟨c0,c1,c2,c3,c4,c5,c6⟩; go_simp <;> with_reducible rfl)) | (refine zAC rfl ?_ ?_; rfl)); try simp only [Act.put,qset])
 refine zAG rfl (fun K hK=>?_)
 go_simp
 go_at_call 68
 refine (zDP _ _ _ _ _ j _ HJ.out).mono ?_
 rintro r w1 ⟨rfl,hb1⟩
 (try go_wp2_with fail)
 replace HT:=zIn (HT.out.later hb1)
 replace HS:=zIn (HS.out.later hb1)
 clear hb1
 refine hK.out _ _ (HT.out.ta) (fun _=>?_)
 (try simp only [Act.put,qset])
 clear hK K
 repeat ((first | (refine zAB (v := ?_) rfl ?_ ?_ ?_; rotate_left 1; rfl; focus (rintro wS ⟨c0,c1,c2,c3,c4,c5,c6⟩; go_simp <;> with_reducible rfl)) | (refine zAC rfl ?_ ?_; rfl)); try simp only [Act.put,qset])
 refine zAG rfl (fun K hK=>?_)
 go_simp
 go_at_call 170
 refine (zEr base _ p c _ _ _ who j word kw HS.out.mem HY.out HS.out.size hL hk0 hk1).mono ?_
 rintro r w2 ⟨rfl,v2,hT2⟩
 (try go_wp2_with fail)
 have hlt1:=HT.out.lt
 replace HT:=zIn (HT.out.keep hT2.keep (HS.out.apart b rfl))
 replace HS:=zIn (HS.out.cells (fun i hi=>hi ▸ hlt1) hT2)
 clear hT2 hlt1
 refine hK.out _ _ (HT.out.ta) (fun _=>?_)
 (try simp only [Act.put,qset])
 clear hK K
 repeat ((first | (refine zAB (v := ?_) rfl ?_ ?_ ?_; rotate_left 1; rfl; focus (rintro wS ⟨c0,c1,c2,c3,c4,c5,c6⟩; go_simp <;> with_reducible rfl)) | (refine zAC rfl ?_ ?_; rfl)); try simp only [Act.put,qset])
 have c9:=HT.out.at' 9 _ rfl
 have f9:=HT.out.fz 9
 refine zAG rfl (fun K hK=>?_)
 go_simp
 replace HT : Hid (IsObj _ b (taL t s so d who slot word 3 value false 0)):=zIn (HT.out.set 9 (.bool false))
 replace HS:=zIn (HS.out.own ((Keep.refl _ _).own 9 (.bool false)))
 clear c9 f9
 refine hK.out _ _ (HT.out.ta) (fun _=>?_)
 (try simp only [Act.put,qset])
 clear hK K
 refine zAI ?_
 have c0:=HT.out.at' 0 _ rfl
 have c1:=HT.out.at' 1 _ rfl
 have c2:=HT.out.at' 2 _ rfl
 have c3:=HT.out.at' 3 _ rfl
 have c4:=HT.out.at' 4 _ rfl
 have c5:=HT.out.at' 5 _ rfl
 have c6:=HT.out.at' 6 _ rfl
 have c7:=HT.out.at' 7 _ rfl
 have c8:=HT.out.at' 8 _ rfl
 have c9:=HT.out.at' 9 _ rfl
 have c10:=HT.out.at' 10 _ rfl
 have f7:=HT.out.fz 7
 have f9:=HT.out.fz 9
 have f10:=HT.out.fz 10
 go_wp2_with fail
 refine bodyPost_ret (v:=i64 0) (by simp [results,Tryz.results158,go_sem]) rfl ⟨rfl,_,HS.out.own ((Keep.refl _ _).own 7 _),(HT.out.set 7 (i64 4) : IsObj _ b (taL t s so d who slot word 4 value false 0))⟩
theorem zEe (j : Nat) (hj : slot = (j : Int)) (y : Int) (hy : C[j]? = some y) (hyw : y ≠ word) (hT : IsObj w b (taL t s so d who slot word 3 value false 0)) (hl : Lay t s n) (w0 : 0 ≤ who) (w1 : who < t) (s0 : 0 ≤ slot) (s1 : slot < n) (x0 : 0 ≤ word) (x1 : word ≤ 18446744073709551615) (hM : IsMem base w p c v C L) (ha : ¬ Foot p c v b) (hb : base ≤ w.heap.size) (hL : L.length < 1000000000) :
  Calls Tryz.prog 158 #[pt b,pt p] w (TaPost base w b p c v (taL t s so d who slot word 4 value true 0) C (L ++ [⟨who,2,j,y,y,false⟩]) (.returned (i64 0))):=by
 have hn1:=hl.n1; have hn2:=hl.n2; have ht1:=hl.t1; have ht2:=hl.t2
 have HS:=zIn (Does.refl (B:=(· = b)) hM (fun i hi=>hi ▸ ha) hb)
 have hA : AtTa w.drew b t s so d who slot word:=hT.drew.ta
 have HT:=zIn hT
 have HJ:=zIn hj
 have HY:=zIn hy
 have HNE:=zIn hyw
 clear hyw
 clear hj hy
 obtain ⟨kw,hkw⟩ : ∃ kw : Int,tkW word = kw:=⟨_,rfl⟩
 have hk0 : 0 ≤ kw ∧ kw ≤ 18446744073709551615:=by rw [← hkw]; unfold tkW; omega
 obtain ⟨hk0,hk1⟩:=hk0
 have HKW:=zIn hkw
 clear hkw
 clear hM ha
 have c0:=hT.at' 7 _ rfl
 have c1:=hT.at' 10 _ rfl
 have c2:=hT.at' 6 _ rfl
 clear hT
 go_enter Tryz.func158,Tryz.ntmps158
 go_wp2_with fail
 clear c0 c1
 refine (zAi word _ x0 x1).mono ?_
 rintro r w1 ⟨rfl,hb1⟩
 replace HT:=zIn (HT.out.later hb1)
 replace HS:=zIn (HS.out.later hb1)
 clear hb1
 go_wp2_with fail
 refine (zEF _ _ _ _ _ _).mono ?_
 rintro r w1 ⟨rfl,hb1⟩
 replace HT:=zIn (HT.out.later hb1)
 replace HS:=zIn (HS.out.later hb1)
 clear hb1
 go_wp2_with fail
 refine (zBr 2 (word / 4 % 2) (word / 8 % 8192) (word / 65536 % 16777216) (word / 1099511627776) _ ⟨by omega,by omega,by omega,by omega,by omega,by omega,by omega,by omega,by omega,by omega⟩).mono ?_
 rintro r w1 ⟨rfl,hb1⟩
 replace HT:=zIn (HT.out.later hb1)
 replace HS:=zIn (HS.out.later hb1)
 clear hb1
 rw [show 2 + 4 * (word / 4 % 2) + 8 * (word / 8 % 8192) + 65536 * (word / 65536 % 16777216) + 1099511627776 * (word / 1099511627776) = kw from HKW.out]
 clear c2
 go_wp2_with fail
 have hA:=HT.out.drew.ta
 replace HT:=zIn HT.out.drew
 replace HS:=zIn HS.out.drew
 refine zAD ((fun w'=>AtTa w' b t s so d who slot word)) ((0,true) :: (1,true) :: (2,true) :: (3,true) :: (4,true) :: (5,true) :: (6,true) :: (7,true) :: (8,true) :: (9,true) :: (10,true) :: (11,true) :: (12,true) :: (13,true) :: (15,true) :: (16,true) :: (17,true) :: (18,true) :: (19,true) :: (14,false) :: (20,false) :: (21,true) :: (22,true) :: (23,true) :: (24,false) :: []) (by kernel_rfl) (by kernel_rfl) (by kernel_rfl) (by decide) (fun _ _ _ _ _ h=>h) (hA) ?_
 repeat ((first | (refine zAB (v := ?_) rfl ?_ ?_ ?_; rotate_left 1; rfl; focus (rintro wS ⟨c0,c1,c2,c3,c4,c5,c6⟩; go_simp <;> with_reducible rfl)) | (refine zAC rfl ?_ ?_; rfl)); try simp only [Act.put,qset])
 refine zAG rfl (fun K hK=>?_)
 go_simp
 go_at_call 68
 refine (zDP _ _ _ _ _ j _ HJ.out).mono ?_
 rintro r w1 ⟨rfl,hb1⟩
 (try go_wp2_with fail)
 replace HT:=zIn (HT.out.later hb1)
 replace HS:=zIn (HS.out.later hb1)
 clear hb1
 refine hK.out _ _ (HT.out.ta) (fun _=>?_)
 (try simp only [Act.put,qset])
 clear hK K
 repeat ((first | (refine zAB (v := ?_) rfl ?_ ?_ ?_; rotate_left 1; rfl; focus (rintro wS ⟨c0,c1,c2,c3,c4,c5,c6⟩; go_simp <;> with_reducible rfl)) | (refine zAC rfl ?_ ?_; rfl)); try simp only [Act.put,qset])
 refine zAG rfl (fun K hK=>?_)
 go_simp
 go_at_call 170
 refine (zGq base _ p c _ _ _ who j y word kw HS.out.mem HY.out HS.out.size hL HNE.out).mono ?_
 rintro r w2 ⟨rfl,v2,hT2⟩
 (try go_wp2_with fail)
 have hlt1:=HT.out.lt
 replace HT:=zIn (HT.out.keep hT2.keep (HS.out.apart b rfl))
 replace HS:=zIn (HS.out.cells (fun i hi=>hi ▸ hlt1) hT2)
 clear hT2 hlt1
 refine hK.out _ _ (HT.out.ta) (fun _=>?_)
 (try simp only [Act.put,qset])
 clear hK K
 repeat ((first | (refine zAB (v := ?_) rfl ?_ ?_ ?_; rotate_left 1; rfl; focus (rintro wS ⟨c0,c1,c2,c3,c4,c5,c6⟩; go_simp <;> with_reducible rfl)) | (refine zAC rfl ?_ ?_; rfl)); try simp only [Act.put,qset])
 have c9:=HT.out.at' 9 _ rfl
 have f9:=HT.out.fz 9
 refine zAG rfl (fun K hK=>?_)
 go_simp
 replace HT : Hid (IsObj _ b (taL t s so d who slot word 3 value true 0)):=zIn (HT.out.set 9 (.bool true))
 replace HS:=zIn (HS.out.own ((Keep.refl _ _).own 9 (.bool true)))
 clear c9 f9
 refine hK.out _ _ (HT.out.ta) (fun _=>?_)
 (try simp only [Act.put,qset])
 clear hK K
 refine zAI ?_
 have c0:=HT.out.at' 0 _ rfl
 have c1:=HT.out.at' 1 _ rfl
 have c2:=HT.out.at' 2 _ rfl
 have c3:=HT.out.at' 3 _ rfl
 have c4:=HT.out.at' 4 _ rfl
 have c5:=HT.out.at' 5 _ rfl
 have c6:=HT.out.at' 6 _ rfl
 have c7:=HT.out.at' 7 _ rfl
 have c8:=HT.out.at' 8 _ rfl
 have c9:=HT.out.at' 9 _ rfl
 have c10:=HT.out.at' 10 _ rfl
 have f7:=HT.out.fz 7
 have f9:=HT.out.fz 9
 have f10:=HT.out.fz 10
 go_wp2_with fail
 refine bodyPost_ret (v:=i64 0) (by simp [results,Tryz.results158,go_sem]) rfl ⟨rfl,_,HS.out.own (((Keep.refl _ _).own 7 _).own 7 _),((HT.out.set 7 (i64 4)).set 7 (i64 4) : IsObj _ b (taL t s so d who slot word 4 value true 0))⟩
theorem zG2 (w : World) (b : Nat) (t s so d who slot word next value : Int) (hT : IsObj w b (taL t s so d who slot word next value false 0)) :
  Calls Tryz.prog 175 #[pt b] w fun r w'=>r = .returned (.tuple #[]) ∧ IsObj w' b (taL t s so d who slot word next value false 1) ∧ Keep (· = b) w w':=by
 have c9:=hT.at' 9 _ rfl
 have c10:=hT.at' 10 _ rfl
 have f10:=hT.fz 10
 have HT:=zIn hT
 clear hT
 go_enter Tryz.func175,Tryz.ntmps175
 go_wp2
 go_end0
 exact ⟨rfl,(HT.out.set 10 (i64 1) : IsObj _ b (taL t s so d who slot word next value false 1)),(Keep.refl _ _).own 10 _⟩
theorem zEU (hz : Nat) (hhz : 2 * n + who = (hz : Int)) (y : Int) (hy : C[hz]? = some y) (hT : IsObj w b (taL t s so d who slot word 4 value false 0)) (hl : Lay t s n) (w0 : 0 ≤ who) (w1 : who < t) (s0 : 0 ≤ slot) (s1 : slot < n) (x0 : 0 ≤ word) (x1 : word ≤ 18446744073709551615) (hM : IsMem base w p c v C L) (ha : ¬ Foot p c v b) (hb : base ≤ w.heap.size) (hL : L.length < 1000000000) :
  Calls Tryz.prog 158 #[pt b,pt p] w (TaPost base w b p c v (taL t s so d who slot word 5 value false 1) (C.set hz 0) (L ++ [⟨who,1,hz,y,0,true⟩]) (.returned (i64 1))):=by
 have hn1:=hl.n1; have hn2:=hl.n2; have ht1:=hl.t1; have ht2:=hl.t2
 have HS:=zIn (Does.refl (B:=(· = b)) hM (fun i hi=>hi ▸ ha) hb)
 have hA : AtTa w.drew b t s so d who slot word:=hT.drew.ta
 have HT:=zIn hT
 have HHZ:=zIn hhz
 have HY:=zIn hy
 clear hhz hy
 clear hM ha
 have c0:=hT.at' 7 _ rfl
 have c1:=hT.at' 10 _ rfl
 have c2:=hT.at' 6 _ rfl
 clear hT
 go_enter Tryz.func158,Tryz.ntmps158
 go_wp2_with fail
 clear c0 c1
 replace HT:=zIn HT.out.drew
 replace HS:=zIn HS.out.drew
 clear c2
 refine zAD ((fun w'=>AtTa w' b t s so d who slot word)) ((0,true) :: (1,true) :: (2,true) :: (3,true) :: (4,true) :: (5,true) :: (6,true) :: (7,true) :: (8,true) :: (9,true) :: (10,true) :: (11,true) :: (12,true) :: (13,false) :: (14,false) :: []) (by kernel_rfl) (by kernel_rfl) (by kernel_rfl) (by decide) (fun _ _ _ _ _ h=>h) (hA) ?_
 repeat ((first | (refine zAB (v := ?_) rfl ?_ ?_ ?_; rotate_left 1; rfl; focus (rintro wS ⟨c0,c1,c2,c3,c4,c5,c6⟩; go_simp <;> with_reducible rfl)) | (refine zAC rfl ?_ ?_; rfl)); try simp only [Act.put,qset])
 refine zAG rfl (fun K hK=>?_)
 go_simp
 go_at_call 110
 refine (zCk _ _ _ _ n _ hz _ hl w0 (by omega) HHZ.out).mono ?_
 rintro r w1 ⟨rfl,hb1⟩
 (try go_wp2_with fail)
 replace HT:=zIn (HT.out.later hb1)
 replace HS:=zIn (HS.out.later hb1)
 clear hb1
 refine hK.out _ _ (HT.out.ta) (fun _=>?_)
 (try simp only [Act.put,qset])
 clear hK K
 repeat ((first | (refine zAB (v := ?_) rfl ?_ ?_ ?_; rotate_left 1; rfl; focus (rintro wS ⟨c0,c1,c2,c3,c4,c5,c6⟩; go_simp <;> with_reducible rfl)) | (refine zAC rfl ?_ ?_; rfl)); try simp only [Act.put,qset])
 refine zAG rfl (fun K hK=>?_)
 go_simp
 go_at_call 123
 refine (zBN base _ p c _ _ _ who hz y 0 HS.out.mem HY.out HS.out.size hL (by omega) (by omega)).mono ?_
 rintro r w2 ⟨rfl,v2,hT2⟩
 (try go_wp2_with fail)
 have hlt1:=HT.out.lt
 replace HT:=zIn (HT.out.keep hT2.keep (HS.out.apart b rfl))
 replace HS:=zIn (HS.out.cells (fun i hi=>hi ▸ hlt1) hT2)
 clear hT2 hlt1
 refine hK.out _ _ (HT.out.ta) (fun _=>?_)
 (try simp only [Act.put,qset])
 clear hK K
 repeat ((first | (refine zAB (v := ?_) rfl ?_ ?_ ?_; rotate_left 1; rfl; focus (rintro wS ⟨c0,c1,c2,c3,c4,c5,c6⟩; go_simp <;> with_reducible rfl)) | (refine zAC rfl ?_ ?_; rfl)); try simp only [Act.put,qset])
 refine zAI ?_
 go_wp2_with fail
 refine (zG2 _ b t s so d who slot word 4 value HT.out).mono ?_
 rintro r w3 ⟨rfl,hT3,hK3⟩
 replace HT:=zIn hT3
 replace HS:=zIn (HS.out.own hK3)
 clear hT3 hK3
 have c0:=HT.out.at' 0 _ rfl
 have c1:=HT.out.at' 1 _ rfl
 have c2:=HT.out.at' 2 _ rfl
 have c3:=HT.out.at' 3 _ rfl
 have c4:=HT.out.at' 4 _ rfl
 have c5:=HT.out.at' 5 _ rfl
 have c6:=HT.out.at' 6 _ rfl
 have c7:=HT.out.at' 7 _ rfl
 have c8:=HT.out.at' 8 _ rfl
 have c9:=HT.out.at' 9 _ rfl
 have c10:=HT.out.at' 10 _ rfl
 have f7:=HT.out.fz 7
 have f9:=HT.out.fz 9
 have f10:=HT.out.fz 10
 go_wp2_with fail
 refine bodyPost_ret (v:=i64 1) (by simp [results,Tryz.results158,go_sem]) rfl ⟨rfl,_,HS.out.own ((Keep.refl _ _).own 7 _),(HT.out.set 7 (i64 5) : IsObj _ b (taL t s so d who slot word 5 value false 1))⟩
theorem zHz (w : World) (b : Nat) (t s so d who slot word next value : Int) (hT : IsObj w b (taL t s so d who slot word next value true 0)) :
  Calls Tryz.prog 175 #[pt b] w fun r w'=>r = .returned (.tuple #[]) ∧ IsObj w' b (taL t s so d who slot word next value true 2) ∧ Keep (· = b) w w':=by
 have c9:=hT.at' 9 _ rfl
 have c10:=hT.at' 10 _ rfl
 have f10:=hT.fz 10
 have HT:=zIn hT
 clear hT
 go_enter Tryz.func175,Tryz.ntmps175
 go_wp2
 go_end0
 exact ⟨rfl,((HT.out.set 10 (i64 1)).set 10 (i64 2) : IsObj _ b (taL t s so d who slot word next value true 2)),((Keep.refl _ _).own 10 _).own 10 _⟩
theorem zFM (hz : Nat) (hhz : 2 * n + who = (hz : Int)) (y : Int) (hy : C[hz]? = some y) (hT : IsObj w b (taL t s so d who slot word 4 value true 0)) (hl : Lay t s n) (w0 : 0 ≤ who) (w1 : who < t) (s0 : 0 ≤ slot) (s1 : slot < n) (x0 : 0 ≤ word) (x1 : word ≤ 18446744073709551615) (hM : IsMem base w p c v C L) (ha : ¬ Foot p c v b) (hb : base ≤ w.heap.size) (hL : L.length < 1000000000) :
  Calls Tryz.prog 158 #[pt b,pt p] w (TaPost base w b p c v (taL t s so d who slot word 4 value true 2) (C.set hz 0) (L ++ [⟨who,1,hz,y,0,true⟩]) (.returned (i64 2))):=by
 have hn1:=hl.n1; have hn2:=hl.n2; have ht1:=hl.t1; have ht2:=hl.t2
 have HS:=zIn (Does.refl (B:=(· = b)) hM (fun i hi=>hi ▸ ha) hb)
 have hA : AtTa w.drew b t s so d who slot word:=hT.drew.ta
 have HT:=zIn hT
 have HHZ:=zIn hhz
 have HY:=zIn hy
 clear hhz hy
 clear hM ha
 have c0:=hT.at' 7 _ rfl
 have c1:=hT.at' 10 _ rfl
 have c2:=hT.at' 6 _ rfl
 clear hT
 go_enter Tryz.func158,Tryz.ntmps158
 go_wp2_with fail
 clear c0 c1
 replace HT:=zIn HT.out.drew
 replace HS:=zIn HS.out.drew
 clear c2
 refine zAD ((fun w'=>AtTa w' b t s so d who slot word)) ((0,true) :: (1,true) :: (2,true) :: (3,true) :: (4,true) :: (5,true) :: (6,true) :: (7,true) :: (8,true) :: (9,true) :: (10,true) :: (11,true) :: (12,true) :: (13,false) :: (14,false) :: []) (by kernel_rfl) (by kernel_rfl) (by kernel_rfl) (by decide) (fun _ _ _ _ _ h=>h) (hA) ?_
 repeat ((first | (refine zAB (v := ?_) rfl ?_ ?_ ?_; rotate_left 1; rfl; focus (rintro wS ⟨c0,c1,c2,c3,c4,c5,c6⟩; go_simp <;> with_reducible rfl)) | (refine zAC rfl ?_ ?_; rfl)); try simp only [Act.put,qset])
 refine zAG rfl (fun K hK=>?_)
 go_simp
 go_at_call 110
 refine (zCk _ _ _ _ n _ hz _ hl w0 (by omega) HHZ.out).mono ?_
 rintro r w1 ⟨rfl,hb1⟩
 (try go_wp2_with fail)
 replace HT:=zIn (HT.out.later hb1)
 replace HS:=zIn (HS.out.later hb1)
 clear hb1
 refine hK.out _ _ (HT.out.ta) (fun _=>?_)
 (try simp only [Act.put,qset])
 clear hK K
 repeat ((first | (refine zAB (v := ?_) rfl ?_ ?_ ?_; rotate_left 1; rfl; focus (rintro wS ⟨c0,c1,c2,c3,c4,c5,c6⟩; go_simp <;> with_reducible rfl)) | (refine zAC rfl ?_ ?_; rfl)); try simp only [Act.put,qset])
 refine zAG rfl (fun K hK=>?_)
 go_simp
 go_at_call 123
 refine (zBN base _ p c _ _ _ who hz y 0 HS.out.mem HY.out HS.out.size hL (by omega) (by omega)).mono ?_
 rintro r w2 ⟨rfl,v2,hT2⟩
 (try go_wp2_with fail)
 have hlt1:=HT.out.lt
 replace HT:=zIn (HT.out.keep hT2.keep (HS.out.apart b rfl))
 replace HS:=zIn (HS.out.cells (fun i hi=>hi ▸ hlt1) hT2)
 clear hT2 hlt1
 refine hK.out _ _ (HT.out.ta) (fun _=>?_)
 (try simp only [Act.put,qset])
 clear hK K
 repeat ((first | (refine zAB (v := ?_) rfl ?_ ?_ ?_; rotate_left 1; rfl; focus (rintro wS ⟨c0,c1,c2,c3,c4,c5,c6⟩; go_simp <;> with_reducible rfl)) | (refine zAC rfl ?_ ?_; rfl)); try simp only [Act.put,qset])
 refine zAI ?_
 go_wp2_with fail
 refine (zHz _ b t s so d who slot word 4 value HT.out).mono ?_
 rintro r w3 ⟨rfl,hT3,hK3⟩
 replace HT:=zIn hT3
 replace HS:=zIn (HS.out.own hK3)
 clear hT3 hK3
 have c0:=HT.out.at' 0 _ rfl
 have c1:=HT.out.at' 1 _ rfl
 have c2:=HT.out.at' 2 _ rfl
 have c3:=HT.out.at' 3 _ rfl
 have c4:=HT.out.at' 4 _ rfl
 have c5:=HT.out.at' 5 _ rfl
 have c6:=HT.out.at' 6 _ rfl
 have c7:=HT.out.at' 7 _ rfl
 have c8:=HT.out.at' 8 _ rfl
 have c9:=HT.out.at' 9 _ rfl
 have c10:=HT.out.at' 10 _ rfl
 have f7:=HT.out.fz 7
 have f9:=HT.out.fz 9
 have f10:=HT.out.fz 10
 go_wp2_with fail
 refine bodyPost_ret (v:=i64 2) (by simp [results,Tryz.results158,go_sem]) rfl ⟨rfl,_,HS.out.own (((Keep.refl _ _).own 7 _).own 7 _),((HT.out.set 7 (i64 5)).set 7 (i64 4) : IsObj _ b (taL t s so d who slot word 4 value true 2))⟩
theorem zGM (next ph : Int) (lost : Bool) (hp : ph ≠ 0) (hT : IsObj w b (taL t s so d who slot word next value lost ph)) (hM : IsMem base w p c v C L) (ha : ¬ Foot p c v b) (hb : base ≤ w.heap.size) :
  Calls Tryz.prog 158 #[pt b,pt p] w (TaPost base w b p c v (taL t s so d who slot word next value lost ph) C L (.returned (i64 ph))):=by
 have HS:=zIn (Does.refl (B:=(· = b)) hM (fun i hi=>hi ▸ ha) hb)
 have c10:=hT.at' 10 _ rfl
 have hq : (ph != 0) = true:=by simpa using hp
 have HT:=zIn hT
 clear hT hp hM ha
 go_enter Tryz.func158,Tryz.ntmps158
 go_wp2
 refine bodyPost_ret (v:=i64 ph) (by simp [results,Tryz.results158,go_sem]) rfl ⟨rfl,_,HS.out,HT.out⟩
theorem zFO (next ph : Int) (lost : Bool) (hT : IsObj w b (taL t s so d who slot word next value lost ph)) :
  Calls Tryz.prog 130 #[pt b] w fun r w'=>r = .returned (u64 (if ph = 1 then value else 0)) ∧ w = w':=by
 have c10:=hT.at' 10 _ rfl
 have c8:=hT.at' 8 _ rfl
 clear hT
 by_cases h : ph = 1
 ·rw [if_pos h]
  have hq : (ph != 1) = false:=by simpa using h
  clear h
  go_enter Tryz.func130,Tryz.ntmps130
  go_wp2
  go_ret
  exact ⟨rfl,rfl⟩
 ·rw [if_neg h]
  have hq : (ph != 1) = true:=by simpa using h
  clear h
  go_enter Tryz.func130,Tryz.ntmps130
  go_wp2
  go_ret
  exact ⟨rfl,rfl⟩
theorem zGK :
  Calls Tryz.prog 157 #[cf t s so d,i64 who,i64 slot,u64 word] w fun r w' => ∃ b,r = .returned (pt b) ∧ IsObj w' b (taL t s so d who slot word 0 0 false 0) ∧ Below w.heap.size w w' ∧ w.heap.size ≤ b:=by
 go_enter Tryz.func157,Tryz.ntmps157
 go_wp2
 go_ret
 have h:=IsObj.made (w.alloc (.cells #[.int .i64 t,.int .i64 s,.int .i64 so,.int .i64 d] 24)) (taL t s so d who slot word 0 0 false 0) 221
 rw [show (w.alloc (.cells #[.int .i64 t,.int .i64 s,.int .i64 so,.int .i64 d] 24)).heap.size = w.heap.size + 1 by simp] at h
 exact ⟨_,rfl,h,zAA (zAA (Below.refl _ _) _) _,by simp⟩
end
end
section
structure Ta where
 t : Int
 s : Int
 so : Int
 d : Int
 who : Int
 slot : Int
 word : Int
 next : Int
 value : Int
 lost : Bool
 ph : Int
abbrev Ta.list (k : Ta) : List Value:=taL k.t k.s k.so k.d k.who k.slot k.word k.next k.value k.lost k.ph
def ta0 (t s so d who slot word : Int) : Ta:=⟨t,s,so,d,who,slot,word,0,0,false,0⟩
def Ta.go (k : Ta) (j jv : Nat) (C : List Int) : Ta :=
 if k.ph ≠ 0 then k else if k.next = 0 then { k with next:=1 } else if k.next = 1 then (if C.getD j 0 = k.word then { k with next:=2 } else { k with next:=4,lost:=true })
 else if k.next = 2 then { k with value:=C.getD jv 0,next:=3 } else if k.next = 3 then (if C.getD j 0 = k.word then { k with next:=4 } else { k with next:=4,lost:=true })
 else if k.lost = true then { k with ph:=2 } else { k with next:=5,ph:=1 }
def Ta.cells (k : Ta) (j hz : Nat) (C : List Int) : List Int :=
 if k.ph ≠ 0 then C else if k.next = 0 then C.set hz (k.slot + 1) else if k.next = 1 then C else if k.next = 2 then C else if k.next = 3 then (if C.getD j 0 = k.word then C.set j (tkW k.word) else C) else C.set hz 0
def Ta.ev (k : Ta) (j jv hz : Nat) (C : List Int) : List Ev :=
 if k.ph ≠ 0 then [] else if k.next = 0 then [⟨k.who,1,hz,C.getD hz 0,k.slot + 1,true⟩] else if k.next = 1 then [⟨k.who,0,j,C.getD j 0,C.getD j 0,true⟩]
 else if k.next = 2 then [⟨k.who,0,jv,C.getD jv 0,C.getD jv 0,true⟩] else if k.next = 3 then (if C.getD j 0 = k.word then [⟨k.who,2,j,k.word,tkW k.word,true⟩] else [⟨k.who,2,j,C.getD j 0,C.getD j 0,false⟩])
 else [⟨k.who,1,hz,C.getD hz 0,0,true⟩]
structure Ta.Ok (k : Ta) (n : Int) (j jv hz : Nat) (C : List Int) : Prop where
 lay : Lay k.t k.s n
 len : (C.length : Int) = 2 * n + 2 * k.t
 w0 : 0 ≤ k.who
 w1 : k.who < k.t
 s0 : 0 ≤ k.slot
 s1 : k.slot < n
 hj : k.slot = (j : Int)
 hjv : n + k.slot = (jv : Int)
 hhz : 2 * n + k.who = (hz : Int)
 x0 : 0 ≤ k.word
 x1 : k.word ≤ 18446744073709551615
 st : k.ph = 0 → (k.next = 0 ∧ k.lost = false) ∨ (k.next = 1 ∧ k.lost = false) ∨ (k.next = 2 ∧ k.lost = false) ∨ (k.next = 3 ∧ k.lost = false) ∨ k.next = 4
theorem zDV {C : List Int} {i : Nat} (h : i < C.length) : C[i]? = some (C.getD i 0):=by
 rw [List.getD_eq_getElem?_getD,List.getElem?_eq_getElem h]
 rfl
section
variable (base : Nat) (w : World) (b p c : Nat) (v : Value) (C : List Int) (L : List Ev) (k : Ta) (n : Int) (j jv hz : Nat)
theorem zFd (hk : k.Ok n j jv hz C) (hT : IsObj w b k.list) (hM : IsMem base w p c v C L) (ha : ¬ Foot p c v b) (hb : base ≤ w.heap.size) (hL : L.length < 1000000000) :
  Calls Tryz.prog 158 #[pt b,pt p] w (TaPost base w b p c v (k.go j jv C).list (k.cells j hz C) (L ++ k.ev j jv hz C) (.returned (i64 (k.go j jv C).ph))):=by
 obtain ⟨hl,hlen,w0,w1,s0,s1,hj,hjv,hhz,x0,x1,st⟩:=hk
 have hn1:=hl.n1; have ht1:=hl.t1
 have g1 : C[j]? = some (C.getD j 0):=zDV (by omega)
 have g2 : C[jv]? = some (C.getD jv 0):=zDV (by omega)
 have g3 : C[hz]? = some (C.getD hz 0):=zDV (by omega)
 unfold Ta.go Ta.cells Ta.ev
 by_cases hp : k.ph ≠ 0
 ·rw [if_pos hp,if_pos hp,if_pos hp,List.append_nil]
  exact zGM base w b p c v C L k.t k.s k.so k.d k.who k.slot k.word k.value k.next k.ph k.lost hp hT hM ha hb
 ·rw [if_neg hp,if_neg hp,if_neg hp]
  have hp0 : k.ph = 0:=Classical.not_not.1 hp
  rcases st hp0 with ⟨h,hlo⟩ | ⟨h,hlo⟩ | ⟨h,hlo⟩ | ⟨h,hlo⟩ | h
  ·rw [if_pos h,if_pos h,if_pos h]
   unfold Ta.list at hT ⊢
   rw [h,hlo,hp0] at hT
   simp only [hlo,hp0]
   exact take_0 base w b p c v C L k.t k.s k.so k.d k.who k.slot k.word k.value n hz hhz _ g3 hT hl w0 w1 s0 s1 x0 x1 hM ha hb hL
  ·have h0 : ¬ k.next = 0:=by omega
   rw [if_neg h0,if_neg h0,if_neg h0,if_pos h,if_pos h,if_pos h]
   unfold Ta.list at hT ⊢
   rw [h,hlo,hp0] at hT
   by_cases hw : C.getD j 0 = k.word
   ·rw [if_pos hw]
    simp only [hlo,hp0]
    exact zE7 base w b p c v C L k.t k.s k.so k.d k.who k.slot k.word k.value n j hj _ g1 hw hT hl w0 w1 s0 s1 x0 x1 hM ha hb hL
   ·rw [if_neg hw]
    simp only [hp0]
    exact zEo base w b p c v C L k.t k.s k.so k.d k.who k.slot k.word k.value n j hj _ g1 hw hT hl w0 w1 s0 s1 x0 x1 hM ha hb hL
  ·have h0 : ¬ k.next = 0:=by omega
   have h1 : ¬ k.next = 1:=by omega
   rw [if_neg h0,if_neg h0,if_neg h0,if_neg h1,if_neg h1,if_neg h1,if_pos h,if_pos h,if_pos h]
   unfold Ta.list at hT ⊢
   rw [h,hlo,hp0] at hT
   simp only [hlo,hp0]
   exact take_2 base w b p c v C L k.t k.s k.so k.d k.who k.slot k.word k.value n jv hjv _ g2 hT hl w0 w1 s0 s1 x0 x1 hM ha hb hL
  ·have h0 : ¬ k.next = 0:=by omega
   have h1 : ¬ k.next = 1:=by omega
   have h2 : ¬ k.next = 2:=by omega
   rw [if_neg h0,if_neg h0,if_neg h0,if_neg h1,if_neg h1,if_neg h1,if_neg h2,if_neg h2,if_neg h2,if_pos h,if_pos h,if_pos h]
   unfold Ta.list at hT ⊢
   rw [h,hlo,hp0] at hT
   by_cases hw : C.getD j 0 = k.word
   ·rw [if_pos hw,if_pos hw,if_pos hw]
    simp only [hlo,hp0]
    exact zFC base w b p c v C L k.t k.s k.so k.d k.who k.slot k.word k.value n j hj (hw ▸ g1) hT hl w0 w1 s0 s1 x0 x1 hM ha hb hL
   ·rw [if_neg hw,if_neg hw,if_neg hw]
    simp only [hp0]
    exact zEe base w b p c v C L k.t k.s k.so k.d k.who k.slot k.word k.value n j hj _ g1 hw hT hl w0 w1 s0 s1 x0 x1 hM ha hb hL
  ·have h0 : ¬ k.next = 0:=by omega
   have h1 : ¬ k.next = 1:=by omega
   have h2 : ¬ k.next = 2:=by omega
   have h3 : ¬ k.next = 3:=by omega
   rw [if_neg h0,if_neg h0,if_neg h0,if_neg h1,if_neg h1,if_neg h1,if_neg h2,if_neg h2,if_neg h2,if_neg h3,if_neg h3,if_neg h3]
   unfold Ta.list at hT ⊢
   rw [h,hp0] at hT
   cases hlo : k.lost with
   | false =>
    rw [hlo] at hT
    simp only [Bool.false_eq_true,if_false]
    exact zEU base w b p c v C L k.t k.s k.so k.d k.who k.slot k.word k.value n hz hhz _ g3 hT hl w0 w1 s0 s1 x0 x1 hM ha hb hL
   | true =>
    rw [hlo] at hT
    simp only [h,if_true]
    exact zFM base w b p c v C L k.t k.s k.so k.d k.who k.slot k.word k.value n hz hhz _ g3 hT hl w0 w1 s0 s1 x0 x1 hM ha hb hL
end
section
variable {W w w' : World} {p c b : Nat} {v v' : Value} {C C' : List Int} {L L' : List Ev} {k k' : Ta} {R : List Thing}
end
theorem Ta.ev_le (k : Ta) (j jv hz : Nat) (C : List Int) : (k.ev j jv hz C).length ≤ 1:=by
 unfold Ta.ev
 repeat' split
 all_goals simp
theorem Ta.cells_len (k : Ta) (j hz : Nat) (C : List Int) : (k.cells j hz C).length = C.length:=by
 unfold Ta.cells
 repeat' split
 all_goals simp
structure Ta.Same (k k' : Ta) : Prop where
 t : k'.t = k.t
 s : k'.s = k.s
 who : k'.who = k.who
 slot : k'.slot = k.slot
 word : k'.word = k.word
theorem Ta.go_same (k : Ta) (j jv : Nat) (C : List Int) : k.Same (k.go j jv C):=by
 unfold Ta.go
 repeat' split
 all_goals exact ⟨rfl,rfl,rfl,rfl,rfl⟩
theorem Ta.Ok.next {k : Ta} {n : Int} {j jv hz : Nat} {C C' : List Int} (h : k.Ok n j jv hz C) (hC : C'.length = C.length) : (k.go j jv C).Ok n j jv hz C':=by
 have e:=k.go_same j jv C
 obtain ⟨e1,e2,e3,e4,e5⟩:=e
 refine ⟨by rw [e1,e2]; exact h.lay,by rw [hC,e1]; exact h.len,by rw [e3]; exact h.w0,by rw [e3,e1]; exact h.w1,by rw [e4]; exact h.s0,by rw [e4]; exact h.s1,by rw [e4]; exact h.hj,by rw [e4]; exact h.hjv,by rw [e3]; exact h.hhz,by rw [e5]; exact h.x0,by rw [e5]; exact h.x1,fun hp=>?_⟩
 have st:=h.st
 unfold Ta.go at hp ⊢
 by_cases h0 : k.ph ≠ 0
 ·rw [if_pos h0] at hp
  exact absurd hp h0
 ·rw [if_neg h0] at hp ⊢
  rcases st (Classical.not_not.1 h0) with ⟨a,b⟩ | ⟨a,b⟩ | ⟨a,b⟩ | ⟨a,b⟩ | a
  ·rw [if_pos a] at hp ⊢
   exact .inr (.inl ⟨rfl,b⟩)
  ·rw [if_neg (by omega),if_pos a] at hp ⊢
   split
   ·exact .inr (.inr (.inl ⟨rfl,b⟩))
   ·exact .inr (.inr (.inr (.inr rfl)))
  ·rw [if_neg (by omega),if_neg (by omega),if_pos a] at hp ⊢
   exact .inr (.inr (.inr (.inl ⟨rfl,b⟩)))
  ·rw [if_neg (by omega),if_neg (by omega),if_neg (by omega),if_pos a] at hp ⊢
   split <;> exact .inr (.inr (.inr (.inr rfl)))
  ·rw [if_neg (by omega),if_neg (by omega),if_neg (by omega),if_neg (by omega)] at hp
   split at hp <;> cases hp
end
section
attribute [local go_sem ↓] fld0
theorem zFg {w : World} {b : Nat} {k : Ta} (x : Int) (hx : (if k.ph = 1 then k.value else 0) = x) (hT : IsObj w b k.list) : Calls Tryz.prog 130 #[pt b] w fun r w'=>r = .returned (u64 x) ∧ w = w' :=
 hx ▸ zFO w b k.t k.s k.so k.d k.who k.slot k.word k.value k.next k.ph k.lost hT
section
variable {W w w' : World} {p c b : Nat} {v v' : Value} {L : List Ev} {R : List Thing} {k0 : Ta} {C0 : List Int}
end
def hC : List Int:=[9,7,0,0]
def hU : Ta:=ta0 1 1 0 0 0 0 17
def hT : Ta:=ta0 1 1 0 0 0 0 9
end
section
section
variable {k : Ta} {j jv hz : Nat} {C : List Int}
theorem go_0 (hp : k.ph = 0) (h : k.next = 0) : k.go j jv C = { k with next:=1 } ∧ k.cells j hz C = C.set hz (k.slot + 1) ∧ k.ev j jv hz C = [⟨k.who,1,hz,C.getD hz 0,k.slot + 1,true⟩]:=by simp [Ta.go,Ta.cells,Ta.ev,hp,h]
theorem go_1y (hp : k.ph = 0) (h : k.next = 1) (hw : C.getD j 0 = k.word) : k.go j jv C = { k with next:=2 } ∧ k.cells j hz C = C ∧ k.ev j jv hz C = [⟨k.who,0,j,C.getD j 0,C.getD j 0,true⟩]:=by
 unfold Ta.go Ta.cells Ta.ev
 rw [hp,h]
 generalize C.getD j 0 = z at hw ⊢
 simp [hw]
theorem go_1n (hp : k.ph = 0) (h : k.next = 1) (hw : C.getD j 0 ≠ k.word) : k.go j jv C = { k with next:=4,lost:=true } ∧ k.cells j hz C = C ∧ k.ev j jv hz C = [⟨k.who,0,j,C.getD j 0,C.getD j 0,true⟩]:=by
 unfold Ta.go Ta.cells Ta.ev
 rw [hp,h]
 generalize C.getD j 0 = z at hw ⊢
 simp [hw]
theorem go_2 (hp : k.ph = 0) (h : k.next = 2) : k.go j jv C = { k with value:=C.getD jv 0,next:=3 } ∧ k.cells j hz C = C ∧ k.ev j jv hz C = [⟨k.who,0,jv,C.getD jv 0,C.getD jv 0,true⟩]:=by
 unfold Ta.go Ta.cells Ta.ev
 rw [hp,h]
 simp
theorem go_3y (hp : k.ph = 0) (h : k.next = 3) (hw : C.getD j 0 = k.word) : k.go j jv C = { k with next:=4 } ∧ k.cells j hz C = C.set j (tkW k.word) ∧ k.ev j jv hz C = [⟨k.who,2,j,k.word,tkW k.word,true⟩]:=by
 unfold Ta.go Ta.cells Ta.ev
 rw [hp,h]
 generalize C.getD j 0 = z at hw ⊢
 simp [hw]
theorem go_3n (hp : k.ph = 0) (h : k.next = 3) (hw : C.getD j 0 ≠ k.word) : k.go j jv C = { k with next:=4,lost:=true } ∧ k.cells j hz C = C ∧ k.ev j jv hz C = [⟨k.who,2,j,C.getD j 0,C.getD j 0,false⟩]:=by
 unfold Ta.go Ta.cells Ta.ev
 rw [hp,h]
 generalize C.getD j 0 = z at hw ⊢
 simp [hw]
theorem go_4y (hp : k.ph = 0) (h : k.next = 4) (hl : k.lost = false) : k.go j jv C = { k with next:=5,ph:=1 } ∧ k.cells j hz C = C.set hz 0 ∧ k.ev j jv hz C = [⟨k.who,1,hz,C.getD hz 0,0,true⟩]:=by
 unfold Ta.go Ta.cells Ta.ev
 rw [hp,h]
 simp [hl]
theorem go_4n (hp : k.ph = 0) (h : k.next = 4) (hl : k.lost = true) : k.go j jv C = { k with ph:=2 } ∧ k.cells j hz C = C.set hz 0 ∧ k.ev j jv hz C = [⟨k.who,1,hz,C.getD hz 0,0,true⟩]:=by
 unfold Ta.go Ta.cells Ta.ev
 rw [hp,h]
 simp [hl]
end
theorem zAH {C : List Int} {i j : Nat} (x : Int) (h : i ≠ j) : (C.set i x).getD j 0 = C.getD j 0:=by
 rw [List.getD_eq_getElem?_getD,List.getElem?_set_ne h, ← List.getD_eq_getElem?_getD]
theorem zAM {C : List Int} {i : Nat} (x : Int) (h : i < C.length) : (C.set i x).getD i 0 = x:=by
 rw [List.getD_eq_getElem?_getD,List.getElem?_set_self h]
 rfl
end
end
end Go.Proofs.YtebgjfhaolgcjaaGreat
