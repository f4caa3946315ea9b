/- Contracts and plain lemmas that these laws need. No condition. -/
import Derived.Deep.DeepCutAuto
import Derived.Ground.SlsfProg
import Derived.Ground.SlsgProg
import Derived.Shelf.SlCmpFuncs.MinMaxFunc
import Derived.Shelf.SlGeneric
import Derived.Shelf.SlSortCmp.NoneTotal
import Derived.Shelf.SlSortCmp.Whole1
import Derived.Test.YtjlpidjilonhfaaGreatProg
import Derived.Test.YtjlpidjilonhfaaGreatQLI1
import Derived.Test.YtjlpidjilonhfaaGreatQLI3
namespace Go.Proofs.YtjlpidjilonhfaaGreat
set_option linter.unusedVariables false
set_option maxHeartbeats 8000000
set_option maxRecDepth 100000
section
open Go.RowKit
section
theorem zCR (t s so d n i : Int) (j : Nat) (w : World) (h : Lay t s n) (i0 : 0 ≤ i) (i1 : i ≤ t) (hj : 2 * n + i = (j : Int)) :
  Calls Tryz.prog 94 #[cf t s so d,i64 i] w fun r w'=>r = .returned (i64 j) ∧ Below w.heap.size w w':=by
 rw [← hj]
 exact zCO t s so d n i w h i0 i1
theorem zHx (t s so d n i : Int) (j : Nat) (w : World) (h : Lay t s n) (i0 : 0 ≤ i) (i1 : i ≤ n) (hj : n + i = (j : Int)) :
  Calls Tryz.prog 65 #[cf t s so d,i64 i] w fun r w'=>r = .returned (i64 j) ∧ Below w.heap.size w w':=by
 rw [← hj]
 exact zCy t s so d n i w h i0 i1
theorem zDN (t s so d i : Int) (j : Nat) (w : World) (hj : i = (j : Int)) :
  Calls Tryz.prog 70 #[cf t s so d,i64 i] w fun r w'=>r = .returned (i64 j) ∧ Below w.heap.size w w':=by
 rw [← hj]
 exact zAZ t s so d i w
def tkW (x : Int) : Int:=2 + 4 * (x / 4 % 2) + 8 * (x / 8 % 8192) + 65536 * (x / 65536 % 16777216) + 1099511627776 * (x / 1099511627776)
abbrev taL (t s so d who slot word next value : Int) (lost : Bool) (ph : Int) : List Value:=[i64 t,i64 s,i64 so,i64 d,i64 who,i64 slot,u64 word,i64 next,u64 value,.bool lost,i64 ph]
structure AtTa (w : World) (b : Nat) (t s so d who slot word : Int) : Prop where
 c0 : w.cell? ⟨b,0,none⟩ = some (i64 t)
 c1 : w.cell? ⟨b,1,none⟩ = some (i64 s)
 c2 : w.cell? ⟨b,2,none⟩ = some (i64 so)
 c3 : w.cell? ⟨b,3,none⟩ = some (i64 d)
 c4 : w.cell? ⟨b,4,none⟩ = some (i64 who)
 c5 : w.cell? ⟨b,5,none⟩ = some (i64 slot)
 c6 : w.cell? ⟨b,6,none⟩ = some (u64 word)
theorem IsObj.ta {w : World} {b : Nat} {t s so d who slot word : Int} {l : List Value} (h : IsObj w b (i64 t :: i64 s :: i64 so :: i64 d :: i64 who :: i64 slot :: u64 word :: l)) : AtTa w b t s so d who slot word :=
 ⟨h.at' 0 _ rfl,h.at' 1 _ rfl,h.at' 2 _ rfl,h.at' 3 _ rfl,h.at' 4 _ rfl,h.at' 5 _ rfl,h.at' 6 _ rfl⟩
def TaPost (base : Nat) (w : World) (b p c : Nat) (v : Value) (l : List Value) (C' : List Int) (L' : List Ev) (e0 : Ending) (e : Ending) (w' : World) : Prop :=
 e = e0 ∧ ∃ v',Does (· = b) base w w' p c v v' C' L' ∧ IsObj w' b l
section
variable (base : Nat) (w : World) (b p c : Nat) (v : Value) (C : List Int) (L : List Ev) (t s so d who slot word value n : Int)
theorem take_0 (hz : Nat) (hhz : 2 * n + who = (hz : Int)) (y : Int) (hy : C[hz]? = some y) (hT : IsObj w b (taL t s so d who slot word 0 value false 0)) (hl : Lay t s n) (w0 : 0 ≤ who) (w1 : who < t) (s0 : 0 ≤ slot) (s1 : slot < n) (x0 : 0 ≤ word) (x1 : word ≤ 18446744073709551615) (hM : IsMem base w p c v C L) (ha : ¬ Foot p c v b) (hb : base ≤ w.heap.size) (hL : L.length < 1000000000) :
  Calls Tryz.prog 90 #[pt b,pt p] w (TaPost base w b p c v (taL t s so d who slot word 1 value false 0) (C.set hz (slot + 1)) (L ++ [⟨who,1,hz,y,slot + 1,true⟩]) (.returned (i64 0))):=by
 have hn1:=hl.n1; have hn2:=hl.n2; have ht1:=hl.t1; have ht2:=hl.t2
 have HS:=zIo (Does.refl (B:=(· = b)) hM (fun i hi=>hi ▸ ha) hb)
 have hA : AtTa w.drew b t s so d who slot word:=hT.drew.ta
 have HT:=zIo hT
 have HHZ:=zIo hhz
 have HY:=zIo hy
 have hu1 : IntKind.u64.wrap slot = slot:=by rw [IntKind.wrap_u64]; omega
 have hu2 : IntKind.u64.wrap (slot + 1) = slot + 1:=by rw [IntKind.wrap_u64]; omega
 clear hhz hy
 clear hM ha
 have c0:=hT.at' 7 _ rfl
 have c1:=hT.at' 10 _ rfl
 have c2:=hT.at' 6 _ rfl
 clear hT
 go_enter Tryz.func90,Tryz.ntmps90
 go_wp2_with fail
 clear c0 c1
 replace HT:=zIo HT.out.drew
 replace HS:=zIo HS.out.drew
 clear c2
 refine zAD ((fun w'=>AtTa w' b t s so d who slot word)) ((0,true) :: (1,true) :: (2,true) :: (3,true) :: (4,true) :: (5,true) :: (6,true) :: (7,true) :: (8,true) :: (9,true) :: (10,true) :: (11,true) :: (12,true) :: (14,true) :: (15,true) :: (16,true) :: (17,true) :: (18,true) :: (19,true) :: (13,false) :: (20,false) :: []) (by kernel_rfl) (by kernel_rfl) (by kernel_rfl) (by decide) (fun _ _ _ _ _ h=>h) (hA) ?_
 repeat ((first | (refine zAC (v := ?_) rfl ?_ ?_ ?_; rotate_left 1; rfl; focus (rintro wS ⟨c0,c1,c2,c3,c4,c5,c6⟩; go_simp <;> with_reducible rfl)) | (refine zAB rfl ?_ ?_; rfl)); try simp only [Act.put,qset])
 refine zAH rfl (fun K hK=>?_)
 go_simp
 go_at_call 94
 refine (zCR _ _ _ _ n _ hz _ hl w0 (by omega) HHZ.out).mono ?_
 rintro r w1 ⟨rfl,hb1⟩
 (try go_wp2_with fail)
 replace HT:=zIo (HT.out.later hb1)
 replace HS:=zIo (HS.out.later hb1)
 clear hb1
 refine hK.out _ _ (HT.out.ta) (fun _=>?_)
 (try simp only [Act.put,qset])
 clear hK K
 repeat ((first | (refine zAC (v := ?_) rfl ?_ ?_ ?_; rotate_left 1; rfl; focus (rintro wS ⟨c0,c1,c2,c3,c4,c5,c6⟩; go_simp <;> with_reducible rfl)) | (refine zAB rfl ?_ ?_; rfl)); try simp only [Act.put,qset])
 refine zAH rfl (fun K hK=>?_)
 go_simp
 go_at_call 64
 refine (zBS base _ p c _ _ _ who hz y (slot + 1) HS.out.mem HY.out HS.out.size hL (by omega) (by omega)).mono ?_
 rintro r w2 ⟨rfl,v2,hT2⟩
 (try go_wp2_with fail)
 have hlt1:=HT.out.lt
 replace HT:=zIo (HT.out.keep hT2.keep (HS.out.apart b rfl))
 replace HS:=zIo (HS.out.cells (fun i hi=>hi ▸ hlt1) hT2)
 clear hT2 hlt1
 refine hK.out _ _ (HT.out.ta) (fun _=>?_)
 (try simp only [Act.put,qset])
 clear hK K
 repeat ((first | (refine zAC (v := ?_) rfl ?_ ?_ ?_; rotate_left 1; rfl; focus (rintro wS ⟨c0,c1,c2,c3,c4,c5,c6⟩; go_simp <;> with_reducible rfl)) | (refine zAB rfl ?_ ?_; rfl)); try simp only [Act.put,qset])
 refine zAJ ?_
 have c0:=HT.out.at' 0 _ rfl
 have c1:=HT.out.at' 1 _ rfl
 have c2:=HT.out.at' 2 _ rfl
 have c3:=HT.out.at' 3 _ rfl
 have c4:=HT.out.at' 4 _ rfl
 have c5:=HT.out.at' 5 _ rfl
 have c6:=HT.out.at' 6 _ rfl
 have c7:=HT.out.at' 7 _ rfl
 have c8:=HT.out.at' 8 _ rfl
 have c9:=HT.out.at' 9 _ rfl
 have c10:=HT.out.at' 10 _ rfl
 have f7:=HT.out.fz 7
 have f9:=HT.out.fz 9
 have f10:=HT.out.fz 10
 go_wp2_with fail
 refine bodyPost_ret (v:=i64 0) (by simp [results,Tryz.results90,go_sem]) rfl ⟨rfl,_,HS.out.own ((Keep.refl _ _).own 7 _),(HT.out.set 7 (i64 1) : IsObj _ b (taL t s so d who slot word 1 value false 0))⟩
theorem zFE (j : Nat) (hj : slot = (j : Int)) (y : Int) (hy : C[j]? = some y) (hyw : y = word) (hT : IsObj w b (taL t s so d who slot word 1 value false 0)) (hl : Lay t s n) (w0 : 0 ≤ who) (w1 : who < t) (s0 : 0 ≤ slot) (s1 : slot < n) (x0 : 0 ≤ word) (x1 : word ≤ 18446744073709551615) (hM : IsMem base w p c v C L) (ha : ¬ Foot p c v b) (hb : base ≤ w.heap.size) (hL : L.length < 1000000000) :
  Calls Tryz.prog 90 #[pt b,pt p] w (TaPost base w b p c v (taL t s so d who slot word 2 value false 0) C (L ++ [⟨who,0,j,y,y,true⟩]) (.returned (i64 0))):=by
 have hn1:=hl.n1; have hn2:=hl.n2; have ht1:=hl.t1; have ht2:=hl.t2
 have HS:=zIo (Does.refl (B:=(· = b)) hM (fun i hi=>hi ▸ ha) hb)
 have hA : AtTa w.drew b t s so d who slot word:=hT.drew.ta
 have HT:=zIo hT
 have HJ:=zIo hj
 have HY:=zIo hy
 have hq : (y != word) = false:=by simp [hyw]
 clear hj hy hyw
 clear hM ha
 have c0:=hT.at' 7 _ rfl
 have c1:=hT.at' 10 _ rfl
 have c2:=hT.at' 6 _ rfl
 clear hT
 go_enter Tryz.func90,Tryz.ntmps90
 go_wp2_with fail
 clear c0 c1
 replace HT:=zIo HT.out.drew
 replace HS:=zIo HS.out.drew
 clear c2
 refine zAD ((fun w'=>AtTa w' b t s so d who slot word)) ((0,true) :: (1,true) :: (2,true) :: (3,true) :: (4,true) :: (5,true) :: (6,true) :: (7,true) :: (8,true) :: (9,true) :: (10,true) :: (11,true) :: (12,true) :: (13,true) :: (16,true) :: (17,true) :: (18,true) :: (19,true) :: (14,false) :: (15,false) :: (20,true) :: (21,true) :: (22,true) :: (23,false) :: []) (by kernel_rfl) (by kernel_rfl) (by kernel_rfl) (by decide) (fun _ _ _ _ _ h=>h) (hA) ?_
 repeat ((first | (refine zAC (v := ?_) rfl ?_ ?_ ?_; rotate_left 1; rfl; focus (rintro wS ⟨c0,c1,c2,c3,c4,c5,c6⟩; go_simp <;> with_reducible rfl)) | (refine zAB rfl ?_ ?_; rfl)); try simp only [Act.put,qset])
 refine zAH rfl (fun K hK=>?_)
 go_simp
 go_at_call 70
 refine (zDN _ _ _ _ _ j _ HJ.out).mono ?_
 rintro r w1 ⟨rfl,hb1⟩
 (try go_wp2_with fail)
 replace HT:=zIo (HT.out.later hb1)
 replace HS:=zIo (HS.out.later hb1)
 clear hb1
 refine hK.out _ _ (HT.out.ta) (fun _=>?_)
 (try simp only [Act.put,qset])
 clear hK K
 repeat ((first | (refine zAC (v := ?_) rfl ?_ ?_ ?_; rotate_left 1; rfl; focus (rintro wS ⟨c0,c1,c2,c3,c4,c5,c6⟩; go_simp <;> with_reducible rfl)) | (refine zAB rfl ?_ ?_; rfl)); try simp only [Act.put,qset])
 refine zAH rfl (fun K hK=>?_)
 go_simp
 go_at_call 92
 refine (zAt base _ p c _ _ _ who j y HS.out.mem HY.out HS.out.size hL).mono ?_
 rintro r w2 ⟨rfl,v2,hT2⟩
 (try go_wp2_with fail)
 have hlt1:=HT.out.lt
 replace HT:=zIo (HT.out.keep hT2.keep (HS.out.apart b rfl))
 replace HS:=zIo (HS.out.cells (fun i hi=>hi ▸ hlt1) hT2)
 clear hT2 hlt1
 refine hK.out _ _ (HT.out.ta) (fun _=>?_)
 (try simp only [Act.put,qset])
 clear hK K
 repeat ((first | (refine zAC (v := ?_) rfl ?_ ?_ ?_; rotate_left 1; rfl; focus (rintro wS ⟨c0,c1,c2,c3,c4,c5,c6⟩; go_simp <;> with_reducible rfl)) | (refine zAB rfl ?_ ?_; rfl)); try simp only [Act.put,qset])
 have c9:=HT.out.at' 9 _ rfl
 have f9:=HT.out.fz 9
 refine zAH rfl (fun K hK=>?_)
 go_simp
 replace HT : Hid (IsObj _ b (taL t s so d who slot word 1 value false 0)):=zIo (HT.out.set 9 (.bool false))
 replace HS:=zIo (HS.out.own ((Keep.refl _ _).own 9 (.bool false)))
 clear c9 f9
 refine hK.out _ _ (HT.out.ta) (fun _=>?_)
 (try simp only [Act.put,qset])
 clear hK K
 refine zAJ ?_
 have c0:=HT.out.at' 0 _ rfl
 have c1:=HT.out.at' 1 _ rfl
 have c2:=HT.out.at' 2 _ rfl
 have c3:=HT.out.at' 3 _ rfl
 have c4:=HT.out.at' 4 _ rfl
 have c5:=HT.out.at' 5 _ rfl
 have c6:=HT.out.at' 6 _ rfl
 have c7:=HT.out.at' 7 _ rfl
 have c8:=HT.out.at' 8 _ rfl
 have c9:=HT.out.at' 9 _ rfl
 have c10:=HT.out.at' 10 _ rfl
 have f7:=HT.out.fz 7
 have f9:=HT.out.fz 9
 have f10:=HT.out.fz 10
 go_wp2_with fail
 refine bodyPost_ret (v:=i64 0) (by simp [results,Tryz.results90,go_sem]) rfl ⟨rfl,_,HS.out.own ((Keep.refl _ _).own 7 _),(HT.out.set 7 (i64 2) : IsObj _ b (taL t s so d who slot word 2 value false 0))⟩
theorem zD6 (j : Nat) (hj : slot = (j : Int)) (y : Int) (hy : C[j]? = some y) (hyw : y ≠ word) (hT : IsObj w b (taL t s so d who slot word 1 value false 0)) (hl : Lay t s n) (w0 : 0 ≤ who) (w1 : who < t) (s0 : 0 ≤ slot) (s1 : slot < n) (x0 : 0 ≤ word) (x1 : word ≤ 18446744073709551615) (hM : IsMem base w p c v C L) (ha : ¬ Foot p c v b) (hb : base ≤ w.heap.size) (hL : L.length < 1000000000) :
  Calls Tryz.prog 90 #[pt b,pt p] w (TaPost base w b p c v (taL t s so d who slot word 4 value true 0) C (L ++ [⟨who,0,j,y,y,true⟩]) (.returned (i64 0))):=by
 have hn1:=hl.n1; have hn2:=hl.n2; have ht1:=hl.t1; have ht2:=hl.t2
 have HS:=zIo (Does.refl (B:=(· = b)) hM (fun i hi=>hi ▸ ha) hb)
 have hA : AtTa w.drew b t s so d who slot word:=hT.drew.ta
 have HT:=zIo hT
 have HJ:=zIo hj
 have HY:=zIo hy
 have hq : (y != word) = true:=by simp [hyw]
 clear hj hy hyw
 clear hM ha
 have c0:=hT.at' 7 _ rfl
 have c1:=hT.at' 10 _ rfl
 have c2:=hT.at' 6 _ rfl
 clear hT
 go_enter Tryz.func90,Tryz.ntmps90
 go_wp2_with fail
 clear c0 c1
 replace HT:=zIo HT.out.drew
 replace HS:=zIo HS.out.drew
 clear c2
 refine zAD ((fun w'=>AtTa w' b t s so d who slot word)) ((0,true) :: (1,true) :: (2,true) :: (3,true) :: (4,true) :: (5,true) :: (6,true) :: (7,true) :: (8,true) :: (9,true) :: (10,true) :: (11,true) :: (12,true) :: (13,true) :: (16,true) :: (17,true) :: (18,true) :: (19,true) :: (14,false) :: (15,false) :: (20,true) :: (21,true) :: (22,true) :: (23,false) :: []) (by kernel_rfl) (by kernel_rfl) (by kernel_rfl) (by decide) (fun _ _ _ _ _ h=>h) (hA) ?_
 repeat ((first | (refine zAC (v := ?_) rfl ?_ ?_ ?_; rotate_left 1; rfl; focus (rintro wS ⟨c0,c1,c2,c3,c4,c5,c6⟩; go_simp <;> with_reducible rfl)) | (refine zAB rfl ?_ ?_; rfl)); try simp only [Act.put,qset])
 refine zAH rfl (fun K hK=>?_)
 go_simp
 go_at_call 70
 refine (zDN _ _ _ _ _ j _ HJ.out).mono ?_
 rintro r w1 ⟨rfl,hb1⟩
 (try go_wp2_with fail)
 replace HT:=zIo (HT.out.later hb1)
 replace HS:=zIo (HS.out.later hb1)
 clear hb1
 refine hK.out _ _ (HT.out.ta) (fun _=>?_)
 (try simp only [Act.put,qset])
 clear hK K
 repeat ((first | (refine zAC (v := ?_) rfl ?_ ?_ ?_; rotate_left 1; rfl; focus (rintro wS ⟨c0,c1,c2,c3,c4,c5,c6⟩; go_simp <;> with_reducible rfl)) | (refine zAB rfl ?_ ?_; rfl)); try simp only [Act.put,qset])
 refine zAH rfl (fun K hK=>?_)
 go_simp
 go_at_call 92
 refine (zAt base _ p c _ _ _ who j y HS.out.mem HY.out HS.out.size hL).mono ?_
 rintro r w2 ⟨rfl,v2,hT2⟩
 (try go_wp2_with fail)
 have hlt1:=HT.out.lt
 replace HT:=zIo (HT.out.keep hT2.keep (HS.out.apart b rfl))
 replace HS:=zIo (HS.out.cells (fun i hi=>hi ▸ hlt1) hT2)
 clear hT2 hlt1
 refine hK.out _ _ (HT.out.ta) (fun _=>?_)
 (try simp only [Act.put,qset])
 clear hK K
 repeat ((first | (refine zAC (v := ?_) rfl ?_ ?_ ?_; rotate_left 1; rfl; focus (rintro wS ⟨c0,c1,c2,c3,c4,c5,c6⟩; go_simp <;> with_reducible rfl)) | (refine zAB rfl ?_ ?_; rfl)); try simp only [Act.put,qset])
 have c9:=HT.out.at' 9 _ rfl
 have f9:=HT.out.fz 9
 refine zAH rfl (fun K hK=>?_)
 go_simp
 replace HT : Hid (IsObj _ b (taL t s so d who slot word 1 value true 0)):=zIo (HT.out.set 9 (.bool true))
 replace HS:=zIo (HS.out.own ((Keep.refl _ _).own 9 (.bool true)))
 clear c9 f9
 refine hK.out _ _ (HT.out.ta) (fun _=>?_)
 (try simp only [Act.put,qset])
 clear hK K
 refine zAJ ?_
 have c0:=HT.out.at' 0 _ rfl
 have c1:=HT.out.at' 1 _ rfl
 have c2:=HT.out.at' 2 _ rfl
 have c3:=HT.out.at' 3 _ rfl
 have c4:=HT.out.at' 4 _ rfl
 have c5:=HT.out.at' 5 _ rfl
 have c6:=HT.out.at' 6 _ rfl
 have c7:=HT.out.at' 7 _ rfl
 have c8:=HT.out.at' 8 _ rfl
 have c9:=HT.out.at' 9 _ rfl
 have c10:=HT.out.at' 10 _ rfl
 have f7:=HT.out.fz 7
 have f9:=HT.out.fz 9
 have f10:=HT.out.fz 10
 go_wp2_with fail
 refine bodyPost_ret (v:=i64 0) (by simp [results,Tryz.results90,go_sem]) rfl ⟨rfl,_,HS.out.own (((Keep.refl _ _).own 7 _).own 7 _),((HT.out.set 7 (i64 2)).set 7 (i64 4) : IsObj _ b (taL t s so d who slot word 4 value true 0))⟩
theorem take_2 (j : Nat) (hj : n + slot = (j : Int)) (y : Int) (hy : C[j]? = some y) (hT : IsObj w b (taL t s so d who slot word 2 value false 0)) (hl : Lay t s n) (w0 : 0 ≤ who) (w1 : who < t) (s0 : 0 ≤ slot) (s1 : slot < n) (x0 : 0 ≤ word) (x1 : word ≤ 18446744073709551615) (hM : IsMem base w p c v C L) (ha : ¬ Foot p c v b) (hb : base ≤ w.heap.size) (hL : L.length < 1000000000) :
  Calls Tryz.prog 90 #[pt b,pt p] w (TaPost base w b p c v (taL t s so d who slot word 3 y false 0) C (L ++ [⟨who,0,j,y,y,true⟩]) (.returned (i64 0))):=by
 have hn1:=hl.n1; have hn2:=hl.n2; have ht1:=hl.t1; have ht2:=hl.t2
 have HS:=zIo (Does.refl (B:=(· = b)) hM (fun i hi=>hi ▸ ha) hb)
 have hA : AtTa w.drew b t s so d who slot word:=hT.drew.ta
 have HT:=zIo hT
 have HJ:=zIo hj
 have HY:=zIo hy
 clear hj hy
 clear hM ha
 have c0:=hT.at' 7 _ rfl
 have c1:=hT.at' 10 _ rfl
 have c2:=hT.at' 6 _ rfl
 clear hT
 go_enter Tryz.func90,Tryz.ntmps90
 go_wp2_with fail
 clear c0 c1
 replace HT:=zIo HT.out.drew
 replace HS:=zIo HS.out.drew
 clear c2
 refine zAD ((fun w'=>AtTa w' b t s so d who slot word)) ((0,true) :: (1,true) :: (2,true) :: (3,true) :: (4,true) :: (5,true) :: (6,true) :: (7,true) :: (8,true) :: (9,true) :: (10,true) :: (11,true) :: (12,true) :: (13,true) :: (14,false) :: (15,false) :: (16,true) :: (17,true) :: (18,false) :: []) (by kernel_rfl) (by kernel_rfl) (by kernel_rfl) (by decide) (fun _ _ _ _ _ h=>h) (hA) ?_
 repeat ((first | (refine zAC (v := ?_) rfl ?_ ?_ ?_; rotate_left 1; rfl; focus (rintro wS ⟨c0,c1,c2,c3,c4,c5,c6⟩; go_simp <;> with_reducible rfl)) | (refine zAB rfl ?_ ?_; rfl)); try simp only [Act.put,qset])
 refine zAH rfl (fun K hK=>?_)
 go_simp
 go_at_call 65
 refine (zHx _ _ _ _ n _ j _ hl s0 (by omega) HJ.out).mono ?_
 rintro r w1 ⟨rfl,hb1⟩
 (try go_wp2_with fail)
 replace HT:=zIo (HT.out.later hb1)
 replace HS:=zIo (HS.out.later hb1)
 clear hb1
 refine hK.out _ _ (HT.out.ta) (fun _=>?_)
 (try simp only [Act.put,qset])
 clear hK K
 repeat ((first | (refine zAC (v := ?_) rfl ?_ ?_ ?_; rotate_left 1; rfl; focus (rintro wS ⟨c0,c1,c2,c3,c4,c5,c6⟩; go_simp <;> with_reducible rfl)) | (refine zAB rfl ?_ ?_; rfl)); try simp only [Act.put,qset])
 refine zAH rfl (fun K hK=>?_)
 go_simp
 go_at_call 92
 refine (zAt base _ p c _ _ _ who j y HS.out.mem HY.out HS.out.size hL).mono ?_
 rintro r w2 ⟨rfl,v2,hT2⟩
 (try go_wp2_with fail)
 have hlt1:=HT.out.lt
 replace HT:=zIo (HT.out.keep hT2.keep (HS.out.apart b rfl))
 replace HS:=zIo (HS.out.cells (fun i hi=>hi ▸ hlt1) hT2)
 clear hT2 hlt1
 refine hK.out _ _ (HT.out.ta) (fun _=>?_)
 (try simp only [Act.put,qset])
 clear hK K
 repeat ((first | (refine zAC (v := ?_) rfl ?_ ?_ ?_; rotate_left 1; rfl; focus (rintro wS ⟨c0,c1,c2,c3,c4,c5,c6⟩; go_simp <;> with_reducible rfl)) | (refine zAB rfl ?_ ?_; rfl)); try simp only [Act.put,qset])
 have c8:=HT.out.at' 8 _ rfl
 have f8:=HT.out.fz 8
 refine zAH rfl (fun K hK=>?_)
 go_simp
 replace HT : Hid (IsObj _ b (taL t s so d who slot word 2 y false 0)):=zIo (HT.out.set 8 (u64 y))
 replace HS:=zIo (HS.out.own ((Keep.refl _ _).own 8 (u64 y)))
 clear c8 f8
 refine hK.out _ _ (HT.out.ta) (fun _=>?_)
 (try simp only [Act.put,qset])
 clear hK K
 refine zAJ ?_
 have c0:=HT.out.at' 0 _ rfl
 have c1:=HT.out.at' 1 _ rfl
 have c2:=HT.out.at' 2 _ rfl
 have c3:=HT.out.at' 3 _ rfl
 have c4:=HT.out.at' 4 _ rfl
 have c5:=HT.out.at' 5 _ rfl
 have c6:=HT.out.at' 6 _ rfl
 have c7:=HT.out.at' 7 _ rfl
 have c8:=HT.out.at' 8 _ rfl
 have c9:=HT.out.at' 9 _ rfl
 have c10:=HT.out.at' 10 _ rfl
 have f7:=HT.out.fz 7
 have f9:=HT.out.fz 9
 have f10:=HT.out.fz 10
 go_wp2_with fail
 refine bodyPost_ret (v:=i64 0) (by simp [results,Tryz.results90,go_sem]) rfl ⟨rfl,_,HS.out.own ((Keep.refl _ _).own 7 _),(HT.out.set 7 (i64 3) : IsObj _ b (taL t s so d who slot word 3 y false 0))⟩
theorem zFF (j : Nat) (hj : slot = (j : Int)) (hy : C[j]? = some word)  (hT : IsObj w b (taL t s so d who slot word 3 value false 0)) (hl : Lay t s n) (w0 : 0 ≤ who) (w1 : who < t) (s0 : 0 ≤ slot) (s1 : slot < n) (x0 : 0 ≤ word) (x1 : word ≤ 18446744073709551615) (hM : IsMem base w p c v C L) (ha : ¬ Foot p c v b) (hb : base ≤ w.heap.size) (hL : L.length < 1000000000) :
  Calls Tryz.prog 90 #[pt b,pt p] w (TaPost base w b p c v (taL t s so d who slot word 4 value false 0) (C.set j (tkW word)) (L ++ [⟨who,2,j,word,tkW word,true⟩]) (.returned (i64 0))):=by
 have hn1:=hl.n1; have hn2:=hl.n2; have ht1:=hl.t1; have ht2:=hl.t2
 have HS:=zIo (Does.refl (B:=(· = b)) hM (fun i hi=>hi ▸ ha) hb)
 have hA : AtTa w.drew b t s so d who slot word:=hT.drew.ta
 have HT:=zIo hT
 have HJ:=zIo hj
 have HY:=zIo hy
 clear hj hy
 obtain ⟨kw,hkw⟩ : ∃ kw : Int,tkW word = kw:=⟨_,rfl⟩
 have hk0 : 0 ≤ kw ∧ kw ≤ 18446744073709551615:=by rw [← hkw]; unfold tkW; omega
 obtain ⟨hk0,hk1⟩:=hk0
 rw [hkw]
 have HKW:=zIo hkw
 clear hkw
 clear hM ha
 have c0:=hT.at' 7 _ rfl
 have c1:=hT.at' 10 _ rfl
 have c2:=hT.at' 6 _ rfl
 clear hT
 go_enter Tryz.func90,Tryz.ntmps90
 go_wp2_with fail
 clear c0 c1
 refine (zAn word _ x0 x1).mono ?_
 rintro r w1 ⟨rfl,hb1⟩
 replace HT:=zIo (HT.out.later hb1)
 replace HS:=zIo (HS.out.later hb1)
 clear hb1
 go_wp2_with fail
 refine (zD1 _ _ _ _ _ _).mono ?_
 rintro r w1 ⟨rfl,hb1⟩
 replace HT:=zIo (HT.out.later hb1)
 replace HS:=zIo (HS.out.later hb1)
 clear hb1
 go_wp2_with fail
 refine (zB2 2 (word / 4 % 2) (word / 8 % 8192) (word / 65536 % 16777216) (word / 1099511627776) _ ⟨by omega,by omega,by omega,by omega,by omega,by omega,by omega,by omega,by omega,by omega⟩).mono ?_
 rintro r w1 ⟨rfl,hb1⟩
 replace HT:=zIo (HT.out.later hb1)
 replace HS:=zIo (HS.out.later hb1)
 clear hb1
 rw [show 2 + 4 * (word / 4 % 2) + 8 * (word / 8 % 8192) + 65536 * (word / 65536 % 16777216) + 1099511627776 * (word / 1099511627776) = kw from HKW.out]
 clear c2
 go_wp2_with fail
 have hA:=HT.out.drew.ta
 replace HT:=zIo HT.out.drew
 replace HS:=zIo HS.out.drew
 refine zAD ((fun w'=>AtTa w' b t s so d who slot word)) ((0,true) :: (1,true) :: (2,true) :: (3,true) :: (4,true) :: (5,true) :: (6,true) :: (7,true) :: (8,true) :: (9,true) :: (10,true) :: (11,true) :: (12,true) :: (13,true) :: (15,true) :: (16,true) :: (17,true) :: (18,true) :: (19,true) :: (14,false) :: (20,false) :: (21,true) :: (22,true) :: (23,true) :: (24,false) :: []) (by kernel_rfl) (by kernel_rfl) (by kernel_rfl) (by decide) (fun _ _ _ _ _ h=>h) (hA) ?_
 repeat ((first | (refine zAC (v := ?_) rfl ?_ ?_ ?_; rotate_left 1; rfl; focus (rintro wS ⟨c0,c1,c2,c3,c4,c5,c6⟩; go_simp <;> with_reducible rfl)) | (refine zAB rfl ?_ ?_; rfl)); try simp only [Act.put,qset])
 refine zAH rfl (fun K hK=>?_)
 go_simp
 go_at_call 70
 refine (zDN _ _ _ _ _ j _ HJ.out).mono ?_
 rintro r w1 ⟨rfl,hb1⟩
 (try go_wp2_with fail)
 replace HT:=zIo (HT.out.later hb1)
 replace HS:=zIo (HS.out.later hb1)
 clear hb1
 refine hK.out _ _ (HT.out.ta) (fun _=>?_)
 (try simp only [Act.put,qset])
 clear hK K
 repeat ((first | (refine zAC (v := ?_) rfl ?_ ?_ ?_; rotate_left 1; rfl; focus (rintro wS ⟨c0,c1,c2,c3,c4,c5,c6⟩; go_simp <;> with_reducible rfl)) | (refine zAB rfl ?_ ?_; rfl)); try simp only [Act.put,qset])
 refine zAH rfl (fun K hK=>?_)
 go_simp
 go_at_call 100
 refine (zEf base _ p c _ _ _ who j word kw HS.out.mem HY.out HS.out.size hL hk0 hk1).mono ?_
 rintro r w2 ⟨rfl,v2,hT2⟩
 (try go_wp2_with fail)
 have hlt1:=HT.out.lt
 replace HT:=zIo (HT.out.keep hT2.keep (HS.out.apart b rfl))
 replace HS:=zIo (HS.out.cells (fun i hi=>hi ▸ hlt1) hT2)
 clear hT2 hlt1
 refine hK.out _ _ (HT.out.ta) (fun _=>?_)
 (try simp only [Act.put,qset])
 clear hK K
 repeat ((first | (refine zAC (v := ?_) rfl ?_ ?_ ?_; rotate_left 1; rfl; focus (rintro wS ⟨c0,c1,c2,c3,c4,c5,c6⟩; go_simp <;> with_reducible rfl)) | (refine zAB rfl ?_ ?_; rfl)); try simp only [Act.put,qset])
 have c9:=HT.out.at' 9 _ rfl
 have f9:=HT.out.fz 9
 refine zAH rfl (fun K hK=>?_)
 go_simp
 replace HT : Hid (IsObj _ b (taL t s so d who slot word 3 value false 0)):=zIo (HT.out.set 9 (.bool false))
 replace HS:=zIo (HS.out.own ((Keep.refl _ _).own 9 (.bool false)))
 clear c9 f9
 refine hK.out _ _ (HT.out.ta) (fun _=>?_)
 (try simp only [Act.put,qset])
 clear hK K
 refine zAJ ?_
 have c0:=HT.out.at' 0 _ rfl
 have c1:=HT.out.at' 1 _ rfl
 have c2:=HT.out.at' 2 _ rfl
 have c3:=HT.out.at' 3 _ rfl
 have c4:=HT.out.at' 4 _ rfl
 have c5:=HT.out.at' 5 _ rfl
 have c6:=HT.out.at' 6 _ rfl
 have c7:=HT.out.at' 7 _ rfl
 have c8:=HT.out.at' 8 _ rfl
 have c9:=HT.out.at' 9 _ rfl
 have c10:=HT.out.at' 10 _ rfl
 have f7:=HT.out.fz 7
 have f9:=HT.out.fz 9
 have f10:=HT.out.fz 10
 go_wp2_with fail
 refine bodyPost_ret (v:=i64 0) (by simp [results,Tryz.results90,go_sem]) rfl ⟨rfl,_,HS.out.own ((Keep.refl _ _).own 7 _),(HT.out.set 7 (i64 4) : IsObj _ b (taL t s so d who slot word 4 value false 0))⟩
theorem zER (j : Nat) (hj : slot = (j : Int)) (y : Int) (hy : C[j]? = some y) (hyw : y ≠ word) (hT : IsObj w b (taL t s so d who slot word 3 value false 0)) (hl : Lay t s n) (w0 : 0 ≤ who) (w1 : who < t) (s0 : 0 ≤ slot) (s1 : slot < n) (x0 : 0 ≤ word) (x1 : word ≤ 18446744073709551615) (hM : IsMem base w p c v C L) (ha : ¬ Foot p c v b) (hb : base ≤ w.heap.size) (hL : L.length < 1000000000) :
  Calls Tryz.prog 90 #[pt b,pt p] w (TaPost base w b p c v (taL t s so d who slot word 4 value true 0) C (L ++ [⟨who,2,j,y,y,false⟩]) (.returned (i64 0))):=by
 have hn1:=hl.n1; have hn2:=hl.n2; have ht1:=hl.t1; have ht2:=hl.t2
 have HS:=zIo (Does.refl (B:=(· = b)) hM (fun i hi=>hi ▸ ha) hb)
 have hA : AtTa w.drew b t s so d who slot word:=hT.drew.ta
 have HT:=zIo hT
 have HJ:=zIo hj
 have HY:=zIo hy
 have HNE:=zIo hyw
 clear hyw
 clear hj hy
 obtain ⟨kw,hkw⟩ : ∃ kw : Int,tkW word = kw:=⟨_,rfl⟩
 have hk0 : 0 ≤ kw ∧ kw ≤ 18446744073709551615:=by rw [← hkw]; unfold tkW; omega
 obtain ⟨hk0,hk1⟩:=hk0
 have HKW:=zIo hkw
 clear hkw
 clear hM ha
 have c0:=hT.at' 7 _ rfl
 have c1:=hT.at' 10 _ rfl
 have c2:=hT.at' 6 _ rfl
 clear hT
 go_enter Tryz.func90,Tryz.ntmps90
 go_wp2_with fail
 clear c0 c1
 refine (zAn word _ x0 x1).mono ?_
 rintro r w1 ⟨rfl,hb1⟩
 replace HT:=zIo (HT.out.later hb1)
 replace HS:=zIo (HS.out.later hb1)
 clear hb1
 go_wp2_with fail
 refine (zD1 _ _ _ _ _ _).mono ?_
 rintro r w1 ⟨rfl,hb1⟩
 replace HT:=zIo (HT.out.later hb1)
 replace HS:=zIo (HS.out.later hb1)
 clear hb1
 go_wp2_with fail
 refine (zB2 2 (word / 4 % 2) (word / 8 % 8192) (word / 65536 % 16777216) (word / 1099511627776) _ ⟨by omega,by omega,by omega,by omega,by omega,by omega,by omega,by omega,by omega,by omega⟩).mono ?_
 rintro r w1 ⟨rfl,hb1⟩
 replace HT:=zIo (HT.out.later hb1)
 replace HS:=zIo (HS.out.later hb1)
 clear hb1
 rw [show 2 + 4 * (word / 4 % 2) + 8 * (word / 8 % 8192) + 65536 * (word / 65536 % 16777216) + 1099511627776 * (word / 1099511627776) = kw from HKW.out]
 clear c2
 go_wp2_with fail
 have hA:=HT.out.drew.ta
 replace HT:=zIo HT.out.drew
 replace HS:=zIo HS.out.drew
 refine zAD ((fun w'=>AtTa w' b t s so d who slot word)) ((0,true) :: (1,true) :: (2,true) :: (3,true) :: (4,true) :: (5,true) :: (6,true) :: (7,true) :: (8,true) :: (9,true) :: (10,true) :: (11,true) :: (12,true) :: (13,true) :: (15,true) :: (16,true) :: (17,true) :: (18,true) :: (19,true) :: (14,false) :: (20,false) :: (21,true) :: (22,true) :: (23,true) :: (24,false) :: []) (by kernel_rfl) (by kernel_rfl) (by kernel_rfl) (by decide) (fun _ _ _ _ _ h=>h) (hA) ?_
 repeat ((first | (refine zAC (v := ?_) rfl ?_ ?_ ?_; rotate_left 1; rfl; focus (rintro wS ⟨c0,c1,c2,c3,c4,c5,c6⟩; go_simp <;> with_reducible rfl)) | (refine zAB rfl ?_ ?_; rfl)); try simp only [Act.put,qset])
 refine zAH rfl (fun K hK=>?_)
 go_simp
 go_at_call 70
 refine (zDN _ _ _ _ _ j _ HJ.out).mono ?_
 rintro r w1 ⟨rfl,hb1⟩
 (try go_wp2_with fail)
 replace HT:=zIo (HT.out.later hb1)
 replace HS:=zIo (HS.out.later hb1)
 clear hb1
 refine hK.out _ _ (HT.out.ta) (fun _=>?_)
 (try simp only [Act.put,qset])
 clear hK K
 repeat ((first | (refine zAC (v := ?_) rfl ?_ ?_ ?_; rotate_left 1; rfl; focus (rintro wS ⟨c0,c1,c2,c3,c4,c5,c6⟩; go_simp <;> with_reducible rfl)) | (refine zAB rfl ?_ ?_; rfl)); try simp only [Act.put,qset])
 refine zAH rfl (fun K hK=>?_)
 go_simp
 go_at_call 100
 refine (zGI base _ p c _ _ _ who j y word kw HS.out.mem HY.out HS.out.size hL HNE.out).mono ?_
 rintro r w2 ⟨rfl,v2,hT2⟩
 (try go_wp2_with fail)
 have hlt1:=HT.out.lt
 replace HT:=zIo (HT.out.keep hT2.keep (HS.out.apart b rfl))
 replace HS:=zIo (HS.out.cells (fun i hi=>hi ▸ hlt1) hT2)
 clear hT2 hlt1
 refine hK.out _ _ (HT.out.ta) (fun _=>?_)
 (try simp only [Act.put,qset])
 clear hK K
 repeat ((first | (refine zAC (v := ?_) rfl ?_ ?_ ?_; rotate_left 1; rfl; focus (rintro wS ⟨c0,c1,c2,c3,c4,c5,c6⟩; go_simp <;> with_reducible rfl)) | (refine zAB rfl ?_ ?_; rfl)); try simp only [Act.put,qset])
 have c9:=HT.out.at' 9 _ rfl
 have f9:=HT.out.fz 9
 refine zAH rfl (fun K hK=>?_)
 go_simp
 replace HT : Hid (IsObj _ b (taL t s so d who slot word 3 value true 0)):=zIo (HT.out.set 9 (.bool true))
 replace HS:=zIo (HS.out.own ((Keep.refl _ _).own 9 (.bool true)))
 clear c9 f9
 refine hK.out _ _ (HT.out.ta) (fun _=>?_)
 (try simp only [Act.put,qset])
 clear hK K
 refine zAJ ?_
 have c0:=HT.out.at' 0 _ rfl
 have c1:=HT.out.at' 1 _ rfl
 have c2:=HT.out.at' 2 _ rfl
 have c3:=HT.out.at' 3 _ rfl
 have c4:=HT.out.at' 4 _ rfl
 have c5:=HT.out.at' 5 _ rfl
 have c6:=HT.out.at' 6 _ rfl
 have c7:=HT.out.at' 7 _ rfl
 have c8:=HT.out.at' 8 _ rfl
 have c9:=HT.out.at' 9 _ rfl
 have c10:=HT.out.at' 10 _ rfl
 have f7:=HT.out.fz 7
 have f9:=HT.out.fz 9
 have f10:=HT.out.fz 10
 go_wp2_with fail
 refine bodyPost_ret (v:=i64 0) (by simp [results,Tryz.results90,go_sem]) rfl ⟨rfl,_,HS.out.own (((Keep.refl _ _).own 7 _).own 7 _),((HT.out.set 7 (i64 4)).set 7 (i64 4) : IsObj _ b (taL t s so d who slot word 4 value true 0))⟩
theorem zGo (w : World) (b : Nat) (t s so d who slot word next value : Int) (hT : IsObj w b (taL t s so d who slot word next value false 0)) :
  Calls Tryz.prog 108 #[pt b] w fun r w'=>r = .returned (.tuple #[]) ∧ IsObj w' b (taL t s so d who slot word next value false 1) ∧ Keep (· = b) w w':=by
 have c9:=hT.at' 9 _ rfl
 have c10:=hT.at' 10 _ rfl
 have f10:=hT.fz 10
 have HT:=zIo hT
 clear hT
 go_enter Tryz.func108,Tryz.ntmps108
 go_wp2
 go_end0
 exact ⟨rfl,(HT.out.set 10 (i64 1) : IsObj _ b (taL t s so d who slot word next value false 1)),(Keep.refl _ _).own 10 _⟩
theorem zD4 (hz : Nat) (hhz : 2 * n + who = (hz : Int)) (y : Int) (hy : C[hz]? = some y) (hT : IsObj w b (taL t s so d who slot word 4 value false 0)) (hl : Lay t s n) (w0 : 0 ≤ who) (w1 : who < t) (s0 : 0 ≤ slot) (s1 : slot < n) (x0 : 0 ≤ word) (x1 : word ≤ 18446744073709551615) (hM : IsMem base w p c v C L) (ha : ¬ Foot p c v b) (hb : base ≤ w.heap.size) (hL : L.length < 1000000000) :
  Calls Tryz.prog 90 #[pt b,pt p] w (TaPost base w b p c v (taL t s so d who slot word 5 value false 1) (C.set hz 0) (L ++ [⟨who,1,hz,y,0,true⟩]) (.returned (i64 1))):=by
 have hn1:=hl.n1; have hn2:=hl.n2; have ht1:=hl.t1; have ht2:=hl.t2
 have HS:=zIo (Does.refl (B:=(· = b)) hM (fun i hi=>hi ▸ ha) hb)
 have hA : AtTa w.drew b t s so d who slot word:=hT.drew.ta
 have HT:=zIo hT
 have HHZ:=zIo hhz
 have HY:=zIo hy
 clear hhz hy
 clear hM ha
 have c0:=hT.at' 7 _ rfl
 have c1:=hT.at' 10 _ rfl
 have c2:=hT.at' 6 _ rfl
 clear hT
 go_enter Tryz.func90,Tryz.ntmps90
 go_wp2_with fail
 clear c0 c1
 replace HT:=zIo HT.out.drew
 replace HS:=zIo HS.out.drew
 clear c2
 refine zAD ((fun w'=>AtTa w' b t s so d who slot word)) ((0,true) :: (1,true) :: (2,true) :: (3,true) :: (4,true) :: (5,true) :: (6,true) :: (7,true) :: (8,true) :: (9,true) :: (10,true) :: (11,true) :: (12,true) :: (13,false) :: (14,false) :: []) (by kernel_rfl) (by kernel_rfl) (by kernel_rfl) (by decide) (fun _ _ _ _ _ h=>h) (hA) ?_
 repeat ((first | (refine zAC (v := ?_) rfl ?_ ?_ ?_; rotate_left 1; rfl; focus (rintro wS ⟨c0,c1,c2,c3,c4,c5,c6⟩; go_simp <;> with_reducible rfl)) | (refine zAB rfl ?_ ?_; rfl)); try simp only [Act.put,qset])
 refine zAH rfl (fun K hK=>?_)
 go_simp
 go_at_call 94
 refine (zCR _ _ _ _ n _ hz _ hl w0 (by omega) HHZ.out).mono ?_
 rintro r w1 ⟨rfl,hb1⟩
 (try go_wp2_with fail)
 replace HT:=zIo (HT.out.later hb1)
 replace HS:=zIo (HS.out.later hb1)
 clear hb1
 refine hK.out _ _ (HT.out.ta) (fun _=>?_)
 (try simp only [Act.put,qset])
 clear hK K
 repeat ((first | (refine zAC (v := ?_) rfl ?_ ?_ ?_; rotate_left 1; rfl; focus (rintro wS ⟨c0,c1,c2,c3,c4,c5,c6⟩; go_simp <;> with_reducible rfl)) | (refine zAB rfl ?_ ?_; rfl)); try simp only [Act.put,qset])
 refine zAH rfl (fun K hK=>?_)
 go_simp
 go_at_call 64
 refine (zBS base _ p c _ _ _ who hz y 0 HS.out.mem HY.out HS.out.size hL (by omega) (by omega)).mono ?_
 rintro r w2 ⟨rfl,v2,hT2⟩
 (try go_wp2_with fail)
 have hlt1:=HT.out.lt
 replace HT:=zIo (HT.out.keep hT2.keep (HS.out.apart b rfl))
 replace HS:=zIo (HS.out.cells (fun i hi=>hi ▸ hlt1) hT2)
 clear hT2 hlt1
 refine hK.out _ _ (HT.out.ta) (fun _=>?_)
 (try simp only [Act.put,qset])
 clear hK K
 repeat ((first | (refine zAC (v := ?_) rfl ?_ ?_ ?_; rotate_left 1; rfl; focus (rintro wS ⟨c0,c1,c2,c3,c4,c5,c6⟩; go_simp <;> with_reducible rfl)) | (refine zAB rfl ?_ ?_; rfl)); try simp only [Act.put,qset])
 refine zAJ ?_
 go_wp2_with fail
 refine (zGo _ b t s so d who slot word 4 value HT.out).mono ?_
 rintro r w3 ⟨rfl,hT3,hK3⟩
 replace HT:=zIo hT3
 replace HS:=zIo (HS.out.own hK3)
 clear hT3 hK3
 have c0:=HT.out.at' 0 _ rfl
 have c1:=HT.out.at' 1 _ rfl
 have c2:=HT.out.at' 2 _ rfl
 have c3:=HT.out.at' 3 _ rfl
 have c4:=HT.out.at' 4 _ rfl
 have c5:=HT.out.at' 5 _ rfl
 have c6:=HT.out.at' 6 _ rfl
 have c7:=HT.out.at' 7 _ rfl
 have c8:=HT.out.at' 8 _ rfl
 have c9:=HT.out.at' 9 _ rfl
 have c10:=HT.out.at' 10 _ rfl
 have f7:=HT.out.fz 7
 have f9:=HT.out.fz 9
 have f10:=HT.out.fz 10
 go_wp2_with fail
 refine bodyPost_ret (v:=i64 1) (by simp [results,Tryz.results90,go_sem]) rfl ⟨rfl,_,HS.out.own ((Keep.refl _ _).own 7 _),(HT.out.set 7 (i64 5) : IsObj _ b (taL t s so d who slot word 5 value false 1))⟩
theorem zHC (w : World) (b : Nat) (t s so d who slot word next value : Int) (hT : IsObj w b (taL t s so d who slot word next value true 0)) :
  Calls Tryz.prog 108 #[pt b] w fun r w'=>r = .returned (.tuple #[]) ∧ IsObj w' b (taL t s so d who slot word next value true 2) ∧ Keep (· = b) w w':=by
 have c9:=hT.at' 9 _ rfl
 have c10:=hT.at' 10 _ rfl
 have f10:=hT.fz 10
 have HT:=zIo hT
 clear hT
 go_enter Tryz.func108,Tryz.ntmps108
 go_wp2
 go_end0
 exact ⟨rfl,((HT.out.set 10 (i64 1)).set 10 (i64 2) : IsObj _ b (taL t s so d who slot word next value true 2)),((Keep.refl _ _).own 10 _).own 10 _⟩
theorem zFb (hz : Nat) (hhz : 2 * n + who = (hz : Int)) (y : Int) (hy : C[hz]? = some y) (hT : IsObj w b (taL t s so d who slot word 4 value true 0)) (hl : Lay t s n) (w0 : 0 ≤ who) (w1 : who < t) (s0 : 0 ≤ slot) (s1 : slot < n) (x0 : 0 ≤ word) (x1 : word ≤ 18446744073709551615) (hM : IsMem base w p c v C L) (ha : ¬ Foot p c v b) (hb : base ≤ w.heap.size) (hL : L.length < 1000000000) :
  Calls Tryz.prog 90 #[pt b,pt p] w (TaPost base w b p c v (taL t s so d who slot word 4 value true 2) (C.set hz 0) (L ++ [⟨who,1,hz,y,0,true⟩]) (.returned (i64 2))):=by
 have hn1:=hl.n1; have hn2:=hl.n2; have ht1:=hl.t1; have ht2:=hl.t2
 have HS:=zIo (Does.refl (B:=(· = b)) hM (fun i hi=>hi ▸ ha) hb)
 have hA : AtTa w.drew b t s so d who slot word:=hT.drew.ta
 have HT:=zIo hT
 have HHZ:=zIo hhz
 have HY:=zIo hy
 clear hhz hy
 clear hM ha
 have c0:=hT.at' 7 _ rfl
 have c1:=hT.at' 10 _ rfl
 have c2:=hT.at' 6 _ rfl
 clear hT
 go_enter Tryz.func90,Tryz.ntmps90
 go_wp2_with fail
 clear c0 c1
 replace HT:=zIo HT.out.drew
 replace HS:=zIo HS.out.drew
 clear c2
 refine zAD ((fun w'=>AtTa w' b t s so d who slot word)) ((0,true) :: (1,true) :: (2,true) :: (3,true) :: (4,true) :: (5,true) :: (6,true) :: (7,true) :: (8,true) :: (9,true) :: (10,true) :: (11,true) :: (12,true) :: (13,false) :: (14,false) :: []) (by kernel_rfl) (by kernel_rfl) (by kernel_rfl) (by decide) (fun _ _ _ _ _ h=>h) (hA) ?_
 repeat ((first | (refine zAC (v := ?_) rfl ?_ ?_ ?_; rotate_left 1; rfl; focus (rintro wS ⟨c0,c1,c2,c3,c4,c5,c6⟩; go_simp <;> with_reducible rfl)) | (refine zAB rfl ?_ ?_; rfl)); try simp only [Act.put,qset])
 refine zAH rfl (fun K hK=>?_)
 go_simp
 go_at_call 94
 refine (zCR _ _ _ _ n _ hz _ hl w0 (by omega) HHZ.out).mono ?_
 rintro r w1 ⟨rfl,hb1⟩
 (try go_wp2_with fail)
 replace HT:=zIo (HT.out.later hb1)
 replace HS:=zIo (HS.out.later hb1)
 clear hb1
 refine hK.out _ _ (HT.out.ta) (fun _=>?_)
 (try simp only [Act.put,qset])
 clear hK K
 repeat ((first | (refine zAC (v := ?_) rfl ?_ ?_ ?_; rotate_left 1; rfl; focus (rintro wS ⟨c0,c1,c2,c3,c4,c5,c6⟩; go_simp <;> with_reducible rfl)) | (refine zAB rfl ?_ ?_; rfl)); try simp only [Act.put,qset])
 refine zAH rfl (fun K hK=>?_)
 go_simp
 go_at_call 64
 refine (zBS base _ p c _ _ _ who hz y 0 HS.out.mem HY.out HS.out.size hL (by omega) (by omega)).mono ?_
 rintro r w2 ⟨rfl,v2,hT2⟩
 (try go_wp2_with fail)
 have hlt1:=HT.out.lt
 replace HT:=zIo (HT.out.keep hT2.keep (HS.out.apart b rfl))
 replace HS:=zIo (HS.out.cells (fun i hi=>hi ▸ hlt1) hT2)
 clear hT2 hlt1
 refine hK.out _ _ (HT.out.ta) (fun _=>?_)
 (try simp only [Act.put,qset])
 clear hK K
 repeat ((first | (refine zAC (v := ?_) rfl ?_ ?_ ?_; rotate_left 1; rfl; focus (rintro wS ⟨c0,c1,c2,c3,c4,c5,c6⟩; go_simp <;> with_reducible rfl)) | (refine zAB rfl ?_ ?_; rfl)); try simp only [Act.put,qset])
 refine zAJ ?_
 go_wp2_with fail
 refine (zHC _ b t s so d who slot word 4 value HT.out).mono ?_
 rintro r w3 ⟨rfl,hT3,hK3⟩
 replace HT:=zIo hT3
 replace HS:=zIo (HS.out.own hK3)
 clear hT3 hK3
 have c0:=HT.out.at' 0 _ rfl
 have c1:=HT.out.at' 1 _ rfl
 have c2:=HT.out.at' 2 _ rfl
 have c3:=HT.out.at' 3 _ rfl
 have c4:=HT.out.at' 4 _ rfl
 have c5:=HT.out.at' 5 _ rfl
 have c6:=HT.out.at' 6 _ rfl
 have c7:=HT.out.at' 7 _ rfl
 have c8:=HT.out.at' 8 _ rfl
 have c9:=HT.out.at' 9 _ rfl
 have c10:=HT.out.at' 10 _ rfl
 have f7:=HT.out.fz 7
 have f9:=HT.out.fz 9
 have f10:=HT.out.fz 10
 go_wp2_with fail
 refine bodyPost_ret (v:=i64 2) (by simp [results,Tryz.results90,go_sem]) rfl ⟨rfl,_,HS.out.own (((Keep.refl _ _).own 7 _).own 7 _),((HT.out.set 7 (i64 5)).set 7 (i64 4) : IsObj _ b (taL t s so d who slot word 4 value true 2))⟩
theorem zGE (next ph : Int) (lost : Bool) (hp : ph ≠ 0) (hT : IsObj w b (taL t s so d who slot word next value lost ph)) (hM : IsMem base w p c v C L) (ha : ¬ Foot p c v b) (hb : base ≤ w.heap.size) :
  Calls Tryz.prog 90 #[pt b,pt p] w (TaPost base w b p c v (taL t s so d who slot word next value lost ph) C L (.returned (i64 ph))):=by
 have HS:=zIo (Does.refl (B:=(· = b)) hM (fun i hi=>hi ▸ ha) hb)
 have c10:=hT.at' 10 _ rfl
 have hq : (ph != 0) = true:=by simpa using hp
 have HT:=zIo hT
 clear hT hp hM ha
 go_enter Tryz.func90,Tryz.ntmps90
 go_wp2
 refine bodyPost_ret (v:=i64 ph) (by simp [results,Tryz.results90,go_sem]) rfl ⟨rfl,_,HS.out,HT.out⟩
theorem zE8 (next ph : Int) (lost : Bool) (hT : IsObj w b (taL t s so d who slot word next value lost ph)) :
  Calls Tryz.prog 74 #[pt b] w fun r w'=>r = .returned (u64 (if ph = 1 then value else 0)) ∧ w = w':=by
 have c10:=hT.at' 10 _ rfl
 have c8:=hT.at' 8 _ rfl
 clear hT
 by_cases h : ph = 1
 ·rw [if_pos h]
  have hq : (ph != 1) = false:=by simpa using h
  clear h
  go_enter Tryz.func74,Tryz.ntmps74
  go_wp2
  go_ret
  exact ⟨rfl,rfl⟩
 ·rw [if_neg h]
  have hq : (ph != 1) = true:=by simpa using h
  clear h
  go_enter Tryz.func74,Tryz.ntmps74
  go_wp2
  go_ret
  exact ⟨rfl,rfl⟩
theorem zGb :
  Calls Tryz.prog 89 #[cf t s so d,i64 who,i64 slot,u64 word] w fun r w' => ∃ b,r = .returned (pt b) ∧ IsObj w' b (taL t s so d who slot word 0 0 false 0) ∧ Below w.heap.size w w' ∧ w.heap.size ≤ b:=by
 go_enter Tryz.func89,Tryz.ntmps89
 go_wp2
 go_ret
 have h:=IsObj.made (w.alloc (.cells #[.int .i64 t,.int .i64 s,.int .i64 so,.int .i64 d] 26)) (taL t s so d who slot word 0 0 false 0) 160
 rw [show (w.alloc (.cells #[.int .i64 t,.int .i64 s,.int .i64 so,.int .i64 d] 26)).heap.size = w.heap.size + 1 by simp] at h
 exact ⟨_,rfl,h,zAA (zAA (Below.refl _ _) _) _,by simp⟩
end
end
section
structure Ta where
 t : Int
 s : Int
 so : Int
 d : Int
 who : Int
 slot : Int
 word : Int
 next : Int
 value : Int
 lost : Bool
 ph : Int
abbrev Ta.list (k : Ta) : List Value:=taL k.t k.s k.so k.d k.who k.slot k.word k.next k.value k.lost k.ph
def ta0 (t s so d who slot word : Int) : Ta:=⟨t,s,so,d,who,slot,word,0,0,false,0⟩
def Ta.go (k : Ta) (j jv : Nat) (C : List Int) : Ta :=
 if k.ph ≠ 0 then k else if k.next = 0 then { k with next:=1 } else if k.next = 1 then (if C.getD j 0 = k.word then { k with next:=2 } else { k with next:=4,lost:=true })
 else if k.next = 2 then { k with value:=C.getD jv 0,next:=3 } else if k.next = 3 then (if C.getD j 0 = k.word then { k with next:=4 } else { k with next:=4,lost:=true })
 else if k.lost = true then { k with ph:=2 } else { k with next:=5,ph:=1 }
def Ta.cells (k : Ta) (j hz : Nat) (C : List Int) : List Int :=
 if k.ph ≠ 0 then C else if k.next = 0 then C.set hz (k.slot + 1) else if k.next = 1 then C else if k.next = 2 then C else if k.next = 3 then (if C.getD j 0 = k.word then C.set j (tkW k.word) else C) else C.set hz 0
def Ta.ev (k : Ta) (j jv hz : Nat) (C : List Int) : List Ev :=
 if k.ph ≠ 0 then [] else if k.next = 0 then [⟨k.who,1,hz,C.getD hz 0,k.slot + 1,true⟩] else if k.next = 1 then [⟨k.who,0,j,C.getD j 0,C.getD j 0,true⟩]
 else if k.next = 2 then [⟨k.who,0,jv,C.getD jv 0,C.getD jv 0,true⟩] else if k.next = 3 then (if C.getD j 0 = k.word then [⟨k.who,2,j,k.word,tkW k.word,true⟩] else [⟨k.who,2,j,C.getD j 0,C.getD j 0,false⟩])
 else [⟨k.who,1,hz,C.getD hz 0,0,true⟩]
structure Ta.Ok (k : Ta) (n : Int) (j jv hz : Nat) (C : List Int) : Prop where
 lay : Lay k.t k.s n
 len : (C.length : Int) = 2 * n + 2 * k.t
 w0 : 0 ≤ k.who
 w1 : k.who < k.t
 s0 : 0 ≤ k.slot
 s1 : k.slot < n
 hj : k.slot = (j : Int)
 hjv : n + k.slot = (jv : Int)
 hhz : 2 * n + k.who = (hz : Int)
 x0 : 0 ≤ k.word
 x1 : k.word ≤ 18446744073709551615
 st : k.ph = 0 → (k.next = 0 ∧ k.lost = false) ∨ (k.next = 1 ∧ k.lost = false) ∨ (k.next = 2 ∧ k.lost = false) ∨ (k.next = 3 ∧ k.lost = false) ∨ k.next = 4
theorem zDB {C : List Int} {i : Nat} (h : i < C.length) : C[i]? = some (C.getD i 0):=by
 rw [List.getD_eq_getElem?_getD,List.getElem?_eq_getElem h]
 rfl
section
variable (base : Nat) (w : World) (b p c : Nat) (v : Value) (C : List Int) (L : List Ev) (k : Ta) (n : Int) (j jv hz : Nat)
theorem zFC (hk : k.Ok n j jv hz C) (hT : IsObj w b k.list) (hM : IsMem base w p c v C L) (ha : ¬ Foot p c v b) (hb : base ≤ w.heap.size) (hL : L.length < 1000000000) :
  Calls Tryz.prog 90 #[pt b,pt p] w (TaPost base w b p c v (k.go j jv C).list (k.cells j hz C) (L ++ k.ev j jv hz C) (.returned (i64 (k.go j jv C).ph))):=by
 obtain ⟨hl,hlen,w0,w1,s0,s1,hj,hjv,hhz,x0,x1,st⟩:=hk
 have hn1:=hl.n1; have ht1:=hl.t1
 have g1 : C[j]? = some (C.getD j 0):=zDB (by omega)
 have g2 : C[jv]? = some (C.getD jv 0):=zDB (by omega)
 have g3 : C[hz]? = some (C.getD hz 0):=zDB (by omega)
 unfold Ta.go Ta.cells Ta.ev
 by_cases hp : k.ph ≠ 0
 ·rw [if_pos hp,if_pos hp,if_pos hp,List.append_nil]
  exact zGE base w b p c v C L k.t k.s k.so k.d k.who k.slot k.word k.value k.next k.ph k.lost hp hT hM ha hb
 ·rw [if_neg hp,if_neg hp,if_neg hp]
  have hp0 : k.ph = 0:=Classical.not_not.1 hp
  rcases st hp0 with ⟨h,hlo⟩ | ⟨h,hlo⟩ | ⟨h,hlo⟩ | ⟨h,hlo⟩ | h
  ·rw [if_pos h,if_pos h,if_pos h]
   unfold Ta.list at hT ⊢
   rw [h,hlo,hp0] at hT
   simp only [hlo,hp0]
   exact take_0 base w b p c v C L k.t k.s k.so k.d k.who k.slot k.word k.value n hz hhz _ g3 hT hl w0 w1 s0 s1 x0 x1 hM ha hb hL
  ·have h0 : ¬ k.next = 0:=by omega
   rw [if_neg h0,if_neg h0,if_neg h0,if_pos h,if_pos h,if_pos h]
   unfold Ta.list at hT ⊢
   rw [h,hlo,hp0] at hT
   by_cases hw : C.getD j 0 = k.word
   ·rw [if_pos hw]
    simp only [hlo,hp0]
    exact zFE base w b p c v C L k.t k.s k.so k.d k.who k.slot k.word k.value n j hj _ g1 hw hT hl w0 w1 s0 s1 x0 x1 hM ha hb hL
   ·rw [if_neg hw]
    simp only [hp0]
    exact zD6 base w b p c v C L k.t k.s k.so k.d k.who k.slot k.word k.value n j hj _ g1 hw hT hl w0 w1 s0 s1 x0 x1 hM ha hb hL
  ·have h0 : ¬ k.next = 0:=by omega
   have h1 : ¬ k.next = 1:=by omega
   rw [if_neg h0,if_neg h0,if_neg h0,if_neg h1,if_neg h1,if_neg h1,if_pos h,if_pos h,if_pos h]
   unfold Ta.list at hT ⊢
   rw [h,hlo,hp0] at hT
   simp only [hlo,hp0]
   exact take_2 base w b p c v C L k.t k.s k.so k.d k.who k.slot k.word k.value n jv hjv _ g2 hT hl w0 w1 s0 s1 x0 x1 hM ha hb hL
  ·have h0 : ¬ k.next = 0:=by omega
   have h1 : ¬ k.next = 1:=by omega
   have h2 : ¬ k.next = 2:=by omega
   rw [if_neg h0,if_neg h0,if_neg h0,if_neg h1,if_neg h1,if_neg h1,if_neg h2,if_neg h2,if_neg h2,if_pos h,if_pos h,if_pos h]
   unfold Ta.list at hT ⊢
   rw [h,hlo,hp0] at hT
   by_cases hw : C.getD j 0 = k.word
   ·rw [if_pos hw,if_pos hw,if_pos hw]
    simp only [hlo,hp0]
    exact zFF base w b p c v C L k.t k.s k.so k.d k.who k.slot k.word k.value n j hj (hw ▸ g1) hT hl w0 w1 s0 s1 x0 x1 hM ha hb hL
   ·rw [if_neg hw,if_neg hw,if_neg hw]
    simp only [hp0]
    exact zER base w b p c v C L k.t k.s k.so k.d k.who k.slot k.word k.value n j hj _ g1 hw hT hl w0 w1 s0 s1 x0 x1 hM ha hb hL
  ·have h0 : ¬ k.next = 0:=by omega
   have h1 : ¬ k.next = 1:=by omega
   have h2 : ¬ k.next = 2:=by omega
   have h3 : ¬ k.next = 3:=by omega
   rw [if_neg h0,if_neg h0,if_neg h0,if_neg h1,if_neg h1,if_neg h1,if_neg h2,if_neg h2,if_neg h2,if_neg h3,if_neg h3,if_neg h3]
   unfold Ta.list at hT ⊢
   rw [h,hp0] at hT
   cases hlo : k.lost with
   | false =>
    rw [hlo] at hT
    simp only [Bool.false_eq_true,if_false]
    exact zD4 base w b p c v C L k.t k.s k.so k.d k.who k.slot k.word k.value n hz hhz _ g3 hT hl w0 w1 s0 s1 x0 x1 hM ha hb hL
   | true =>
    rw [hlo] at hT
    simp only [h,if_true]
    exact zFb base w b p c v C L k.t k.s k.so k.d k.who k.slot k.word k.value n hz hhz _ g3 hT hl w0 w1 s0 s1 x0 x1 hM ha hb hL
end
section
variable {W w w' : World} {p c b : Nat} {v v' : Value} {C C' : List Int} {L L' : List Ev} {k k' : Ta} {R : List Thing}
end
theorem Ta.ev_le (k : Ta) (j jv hz : Nat) (C : List Int) : (k.ev j jv hz C).length ≤ 1:=by
 unfold Ta.ev
 repeat' split
 all_goals simp
theorem Ta.cells_len (k : Ta) (j hz : Nat) (C : List Int) : (k.cells j hz C).length = C.length:=by
 unfold Ta.cells
 repeat' split
 all_goals simp
structure Ta.Same (k k' : Ta) : Prop where
 t : k'.t = k.t
 s : k'.s = k.s
 who : k'.who = k.who
 slot : k'.slot = k.slot
 word : k'.word = k.word
theorem Ta.go_same (k : Ta) (j jv : Nat) (C : List Int) : k.Same (k.go j jv C):=by
 unfold Ta.go
 repeat' split
 all_goals exact ⟨rfl,rfl,rfl,rfl,rfl⟩
theorem Ta.Ok.next {k : Ta} {n : Int} {j jv hz : Nat} {C C' : List Int} (h : k.Ok n j jv hz C) (hC : C'.length = C.length) : (k.go j jv C).Ok n j jv hz C':=by
 have e:=k.go_same j jv C
 obtain ⟨e1,e2,e3,e4,e5⟩:=e
 refine ⟨by rw [e1,e2]; exact h.lay,by rw [hC,e1]; exact h.len,by rw [e3]; exact h.w0,by rw [e3,e1]; exact h.w1,by rw [e4]; exact h.s0,by rw [e4]; exact h.s1,by rw [e4]; exact h.hj,by rw [e4]; exact h.hjv,by rw [e3]; exact h.hhz,by rw [e5]; exact h.x0,by rw [e5]; exact h.x1,fun hp=>?_⟩
 have st:=h.st
 unfold Ta.go at hp ⊢
 by_cases h0 : k.ph ≠ 0
 ·rw [if_pos h0] at hp
  exact absurd hp h0
 ·rw [if_neg h0] at hp ⊢
  rcases st (Classical.not_not.1 h0) with ⟨a,b⟩ | ⟨a,b⟩ | ⟨a,b⟩ | ⟨a,b⟩ | a
  ·rw [if_pos a] at hp ⊢
   exact .inr (.inl ⟨rfl,b⟩)
  ·rw [if_neg (by omega),if_pos a] at hp ⊢
   split
   ·exact .inr (.inr (.inl ⟨rfl,b⟩))
   ·exact .inr (.inr (.inr (.inr rfl)))
  ·rw [if_neg (by omega),if_neg (by omega),if_pos a] at hp ⊢
   exact .inr (.inr (.inr (.inl ⟨rfl,b⟩)))
  ·rw [if_neg (by omega),if_neg (by omega),if_neg (by omega),if_pos a] at hp ⊢
   split <;> exact .inr (.inr (.inr (.inr rfl)))
  ·rw [if_neg (by omega),if_neg (by omega),if_neg (by omega),if_neg (by omega)] at hp
   split at hp <;> cases hp
end
section
attribute [local go_sem ↓] fld0
theorem zFV {w : World} {b : Nat} {k : Ta} (x : Int) (hx : (if k.ph = 1 then k.value else 0) = x) (hT : IsObj w b k.list) : Calls Tryz.prog 74 #[pt b] w fun r w'=>r = .returned (u64 x) ∧ w = w' :=
 hx ▸ zE8 w b k.t k.s k.so k.d k.who k.slot k.word k.value k.next k.ph k.lost hT
section
variable {W w w' : World} {p c b : Nat} {v v' : Value} {L : List Ev} {R : List Thing} {k0 : Ta} {C0 : List Int}
end
def hC : List Int:=[9,7,0,0]
def hU : Ta:=ta0 1 1 0 0 0 0 17
def hT : Ta:=ta0 1 1 0 0 0 0 9
end
section
section
variable {k : Ta} {j jv hz : Nat} {C : List Int}
theorem go_0 (hp : k.ph = 0) (h : k.next = 0) : k.go j jv C = { k with next:=1 } ∧ k.cells j hz C = C.set hz (k.slot + 1) ∧ k.ev j jv hz C = [⟨k.who,1,hz,C.getD hz 0,k.slot + 1,true⟩]:=by simp [Ta.go,Ta.cells,Ta.ev,hp,h]
theorem go_1y (hp : k.ph = 0) (h : k.next = 1) (hw : C.getD j 0 = k.word) : k.go j jv C = { k with next:=2 } ∧ k.cells j hz C = C ∧ k.ev j jv hz C = [⟨k.who,0,j,C.getD j 0,C.getD j 0,true⟩]:=by
 unfold Ta.go Ta.cells Ta.ev
 rw [hp,h]
 generalize C.getD j 0 = z at hw ⊢
 simp [hw]
theorem go_1n (hp : k.ph = 0) (h : k.next = 1) (hw : C.getD j 0 ≠ k.word) : k.go j jv C = { k with next:=4,lost:=true } ∧ k.cells j hz C = C ∧ k.ev j jv hz C = [⟨k.who,0,j,C.getD j 0,C.getD j 0,true⟩]:=by
 unfold Ta.go Ta.cells Ta.ev
 rw [hp,h]
 generalize C.getD j 0 = z at hw ⊢
 simp [hw]
theorem go_2 (hp : k.ph = 0) (h : k.next = 2) : k.go j jv C = { k with value:=C.getD jv 0,next:=3 } ∧ k.cells j hz C = C ∧ k.ev j jv hz C = [⟨k.who,0,jv,C.getD jv 0,C.getD jv 0,true⟩]:=by
 unfold Ta.go Ta.cells Ta.ev
 rw [hp,h]
 simp
theorem go_3y (hp : k.ph = 0) (h : k.next = 3) (hw : C.getD j 0 = k.word) : k.go j jv C = { k with next:=4 } ∧ k.cells j hz C = C.set j (tkW k.word) ∧ k.ev j jv hz C = [⟨k.who,2,j,k.word,tkW k.word,true⟩]:=by
 unfold Ta.go Ta.cells Ta.ev
 rw [hp,h]
 generalize C.getD j 0 = z at hw ⊢
 simp [hw]
theorem go_3n (hp : k.ph = 0) (h : k.next = 3) (hw : C.getD j 0 ≠ k.word) : k.go j jv C = { k with next:=4,lost:=true } ∧ k.cells j hz C = C ∧ k.ev j jv hz C = [⟨k.who,2,j,C.getD j 0,C.getD j 0,false⟩]:=by
 unfold Ta.go Ta.cells Ta.ev
 rw [hp,h]
 generalize C.getD j 0 = z at hw ⊢
 simp [hw]
theorem go_4y (hp : k.ph = 0) (h : k.next = 4) (hl : k.lost = false) : k.go j jv C = { k with next:=5,ph:=1 } ∧ k.cells j hz C = C.set hz 0 ∧ k.ev j jv hz C = [⟨k.who,1,hz,C.getD hz 0,0,true⟩]:=by
 unfold Ta.go Ta.cells Ta.ev
 rw [hp,h]
 simp [hl]
theorem go_4n (hp : k.ph = 0) (h : k.next = 4) (hl : k.lost = true) : k.go j jv C = { k with ph:=2 } ∧ k.cells j hz C = C.set hz 0 ∧ k.ev j jv hz C = [⟨k.who,1,hz,C.getD hz 0,0,true⟩]:=by
 unfold Ta.go Ta.cells Ta.ev
 rw [hp,h]
 simp [hl]
end
theorem zAF {C : List Int} {i j : Nat} (x : Int) (h : i ≠ j) : (C.set i x).getD j 0 = C.getD j 0:=by
 rw [List.getD_eq_getElem?_getD,List.getElem?_set_ne h, ← List.getD_eq_getElem?_getD]
theorem zAL {C : List Int} {i : Nat} (x : Int) (h : i < C.length) : (C.set i x).getD i 0 = x:=by
 rw [List.getD_eq_getElem?_getD,List.getElem?_set_self h]
 rfl
end
end
section
open Go.RowKit
section
def lkey (a b : Int) (i : Nat) : Int:=(a * 16777216 + b) * 1048576 + i
theorem zGw {a b : Int} {i : Nat} (a0 : 0 ≤ a) (b0 : 0 ≤ b) : 0 ≤ lkey a b i:=by unfold lkey; omega
theorem zBT (a b c d : Int) : (cmpS a b c d = -1 ∧ (a < c ∨ (a = c ∧ b < d))) ∨ (cmpS a b c d = 0 ∧ a = c ∧ b = d) ∨ (cmpS a b c d = 1 ∧ (c < a ∨ (a = c ∧ d < b))):=by
 unfold cmpS orI cmpI
 rcases Int.lt_trichotomy a c with h | h | h
 ·left
  simp [h]
 ·subst h
  rcases Int.lt_trichotomy b d with h2 | h2 | h2
  ·left
   simp [h2]
  ·subst h2
   right; left
   simp
  ·right; right
   have h3 : ¬ b < d:=by omega
   simp [h2,h3]
 ·right; right
  have h3 : ¬ a < c:=by omega
  simp [h,h3]
theorem zDm {a b c d : Int} {i j : Nat} (b0 : 0 ≤ b) (b1 : b < 16777216) (d0 : 0 ≤ d) (d1 : d < 16777216) (i1 : i < 1048576) (j1 : j < 1048576) :
  (0 < cmpS a b c d ∨ (cmpS a b c d = 0 ∧ j < i)) ↔ lkey c d j < lkey a b i:=by
 unfold lkey
 rcases zBT a b c d with ⟨h,h2⟩ | ⟨h,rfl,rfl⟩ | ⟨h,h2⟩
 ·rw [h]
  constructor
  ·rintro (h3 | ⟨h3,_⟩) <;> omega
  ·intro h3
   omega
 ·rw [h]
  constructor
  ·rintro (h3 | ⟨_,h3⟩) <;> omega
  ·intro h3
   exact .inr ⟨rfl,by omega⟩
 ·rw [h]
  constructor
  ·intro _
   omega
  ·intro _
   exact .inl (by decide)
def pkey (e a b : Int) (i : Nat) : Int:=if e = 0 then -1 - lkey a b i else lkey a b i
end
section
open Go.Shelf
def minL_ren : Go.Shelf.Ren:=⟨fun | 10=>104 | n=>n,fun | 22=>40 | 24=>3 | 25=>172 | 3=>3 | 4=>4 | 9=>9 | 20=>20 | 0=>0 | n=>n,fun | n=>n⟩
theorem minL : Go.Proofs.SlLaysG2.n10 Tryz.prog minL_ren := {
 mixed:=by kernel_rfl
 f10:=⟨Tryz.f104.name,by decide,Tryz.func104.trans (congrArg some (by kernel_rfl))⟩
 t0:=Tryz.underlying0
 a0:=Tryz.isAgg0
 z0:=Tryz.sizeOf0
 v0:=Tryz.zeroValue0
 t3:=Tryz.underlying3
 a3:=Tryz.isAgg3
 z3:=Tryz.sizeOf3
 v3:=Tryz.zeroValue3
 t4:=Tryz.underlying4
 a4:=Tryz.isAgg4
 z4:=Tryz.sizeOf4
 v4:=Tryz.zeroValue4
 t9:=Tryz.underlying9
 a9:=Tryz.isAgg9
 z9:=Tryz.sizeOf9
 v9:=Tryz.zeroValue9
 t20:=Tryz.underlying20
 a20:=Tryz.isAgg20
 z20:=Tryz.sizeOf20
 v20:=Tryz.zeroValue20
 t22:=Tryz.underlying40
 a22:=Tryz.isAgg40
 z22:=Tryz.sizeOf40
 v22:=Tryz.zeroValue40
 a24:=Tryz.isAgg3
 z24:=Tryz.sizeOf3
 t25:=Tryz.underlying172
 a25:=Tryz.isAgg172
 z25:=Tryz.sizeOf172
 v25:=Tryz.zeroValue172 }
def maxL_ren : Go.Shelf.Ren:=⟨fun | 12=>106 | n=>n,fun | 22=>40 | 24=>3 | 25=>172 | 3=>3 | 4=>4 | 9=>9 | 20=>20 | 0=>0 | n=>n,fun | n=>n⟩
theorem maxL : Go.Proofs.SlLaysG2.n12 Tryz.prog maxL_ren := {
 mixed:=by kernel_rfl
 f12:=⟨Tryz.f106.name,by decide,Tryz.func106.trans (congrArg some (by kernel_rfl))⟩
 t0:=Tryz.underlying0
 a0:=Tryz.isAgg0
 z0:=Tryz.sizeOf0
 v0:=Tryz.zeroValue0
 t3:=Tryz.underlying3
 a3:=Tryz.isAgg3
 z3:=Tryz.sizeOf3
 v3:=Tryz.zeroValue3
 t4:=Tryz.underlying4
 a4:=Tryz.isAgg4
 z4:=Tryz.sizeOf4
 v4:=Tryz.zeroValue4
 t9:=Tryz.underlying9
 a9:=Tryz.isAgg9
 z9:=Tryz.sizeOf9
 v9:=Tryz.zeroValue9
 t20:=Tryz.underlying20
 a20:=Tryz.isAgg20
 z20:=Tryz.sizeOf20
 v20:=Tryz.zeroValue20
 t22:=Tryz.underlying40
 a22:=Tryz.isAgg40
 z22:=Tryz.sizeOf40
 v22:=Tryz.zeroValue40
 a24:=Tryz.isAgg3
 z24:=Tryz.sizeOf3
 t25:=Tryz.underlying172
 a25:=Tryz.isAgg172
 z25:=Tryz.sizeOf172
 v25:=Tryz.zeroValue172 }
end
section
def laterI (x y : Int) (i j : Nat) : Int:=orI (cmpS (x / 65536 % 16777216) (x / 1099511627776) (y / 65536 % 16777216) (y / 1099511627776)) (cmpI i j)
theorem zF4 (x y : Int) (i j : Nat) : -1 ≤ laterI x y i j ∧ laterI x y i j ≤ 1:=by
 unfold laterI orI cmpS orI cmpI
 repeat' split
 all_goals omega
def rightI (x y : Int) (i j : Nat) : Int:=orI (cmpI (x / 4 % 2) (y / 4 % 2)) (if x / 4 % 2 = 0 then -laterI x y i j else laterI x y i j)
def At2r (B b o1 o2 : Nat) (v : Value) (x y : Int) (w : World) : Prop:=w.cell? ⟨B,0,none⟩ = some v ∧ w.cell? ⟨b,o1,none⟩ = some (u64 x) ∧ w.cell? ⟨b,o2,none⟩ = some (u64 y)
theorem At2r.gr {B b o1 o2 : Nat} {v : Value} {x y : Int} {w w' : World} (h : At2r B b o1 o2 v x y w) (k : Gr w w') : At2r B b o1 o2 v x y w':=⟨k.cell h.1,k.cell h.2.1,k.cell h.2.2⟩
theorem set5 {W ww : World} {b : Nat} (hG : Gr W ww) (hv : IsObj ww b [i64 0,i64 0,i64 0,i64 0,i64 0]) (hs : W.heap.size ≤ b) (u0 u1 u2 u3 u4 : Value) :
  Gr W (((((ww.setCell ⟨b,0,none⟩ u0).setCell ⟨b,1,none⟩ u1).setCell ⟨b,2,none⟩ u2).setCell ⟨b,3,none⟩ u3).setCell ⟨b,4,none⟩ u4) ∧ IsObj (((((ww.setCell ⟨b,0,none⟩ u0).setCell ⟨b,1,none⟩ u1).setCell ⟨b,2,none⟩ u2).setCell ⟨b,3,none⟩ u3).setCell ⟨b,4,none⟩ u4) b [u0,u1,u2,u3,u4] ∧
   ∀ c ys,IsObj ww c ys → b ≠ c → IsObj (((((ww.setCell ⟨b,0,none⟩ u0).setCell ⟨b,1,none⟩ u1).setCell ⟨b,2,none⟩ u2).setCell ⟨b,3,none⟩ u3).setCell ⟨b,4,none⟩ u4) c ys :=
 ⟨((((hG.set hs _).set hs _).set hs _).set hs _).set hs _,((((hv.set 0 u0).set 1 u1).set 2 u2).set 3 u3).set 4 u4,fun c ys h hn=>((((h.other 0 u0 hn).other 1 u1 hn).other 2 u2 hn).other 3 u3 hn).other 4 u4 hn⟩
theorem zDO (W : World) (B b off n cap : Nat) (i j : Nat) (x y : Int) (hi : i < n) (hj : j < n) (hn : n ≤ 1000000) (hA : At2r B b (off + i) (off + j) (.slice (some ⟨b,off,none⟩) n cap) x y W) (x0 : 0 ≤ x) (x1 : x ≤ 18446744073709551615) (y0 : 0 ≤ y) (y1 : y ≤ 18446744073709551615) :
  Calls Tryz.prog 110 #[i64 i,i64 j,.pointer (some ⟨B,0,none⟩)] W fun e w'=>e = .returned (i64 (rightI x y i j)) ∧ Gr W w':=by
 have i0 : (0 : Int) ≤ (i : Int):=by omega
 have i1 : (i : Int) < (n : Int):=by omega
 have j0 : (0 : Int) ≤ (j : Int):=by omega
 have j1 : (j : Int) < (n : Int):=by omega
 obtain ⟨a0,a1,a2⟩:=id hA
 have HA:=zIo hA
 clear hA
 go_enter Tryz.func110,Tryz.ntmps110
 go_wp2_with fail
 go_cut [6,7] (fun s6 s7 wx => ∃ bv bw,s6 = .pointer (some ⟨bv,0,none⟩) ∧ s7 = .pointer (some ⟨bw,0,none⟩) ∧ Hid (IsObj wx bv [i64 (x % 4),i64 (x / 4 % 2),i64 (x / 8 % 8192),i64 (x / 65536 % 16777216),i64 (x / 1099511627776)]) ∧ Hid (IsObj wx bw [i64 (y % 4),i64 (y / 4 % 2),i64 (y / 8 % 8192),i64 (y / 65536 % 16777216),i64 (y / 1099511627776)]) ∧ Hid (Gr W wx))
 case first =>
  refine zA4 (At2r B b (off + i) (off + j) (.slice (some ⟨b,off,none⟩) n cap) x y) (.take 0 (.take 1 (.take 2 (.take 3 (.take 5 (.take 6 (.take 7 (.take 8 (.three 4 (.three 9 (.two 10 (.one 11 (.one 12 (.one 13 .nil))) 11 (.one 10 (.one 12 (.one 13 .nil)))) 10 (.two 9 (.one 11 (.one 12 (.one 13 .nil))) 11 (.one 9 (.one 12 (.one 13 .nil)))) 11 (.two 9 (.one 10 (.one 12 (.one 13 .nil))) 10 (.one 9 (.one 12 (.one 13 .nil))))) 10 (.two 4 (.two 9 (.one 11 (.one 12 (.one 13 .nil))) 11 (.one 9 (.one 12 (.one 13 .nil)))) 11 (.one 4 (.one 9 (.one 12 (.one 13 .nil))))) 11 (.two 4 (.two 9 (.one 10 (.one 12 (.one 13 .nil))) 10 (.one 9 (.one 12 (.one 13 .nil)))) 10 (.one 4 (.one 9 (.one 12 (.one 13 .nil)))))))))))))) (by kernel_rfl) (by kernel_rfl) (by kernel_rfl) (by decide) (fun _ _ _ _ _ h=>h) HA.out ?_
  repeat (refine zAg (v := ?_) rfl ?_ ?_ ?_; rotate_left 1; rfl; (focus (intro wS hSw; obtain ⟨c0,c1,c2⟩:=hSw; go_simp; first | done | with_reducible rfl)); (try simp only [Act.put,qset]))
  have HA0:=HA
  clear a0 a1 a2
  have HG : Hid (Gr W W.drew):=(Gr.refl W).drew
  replace HA : Hid (At2r B b (off + i) (off + j) (.slice (some ⟨b,off,none⟩) n cap) x y W.drew):=HA.out
  generalize W.drew = ww0 at HG HA ⊢
  refine ⟨?_, ?_, ?_⟩
  ·refine runT rfl (fun K hK=>?_)
   go_simp
   go_at_call 91
   refine (zAQ x _ x0 x1).mono ?_
   rintro r ww1 ⟨rfl,hb⟩
   (try go_wp2_with fail)
   replace HA:=zIo (HA.out.gr hb)
   replace HG:=zIo (HG.out.step hb)
   clear hb
   refine hK.out _ _ HA.out (fun _=>?_)
   (try simp only [Act.put,qset])
   clear hK K
   try clear ww0
   refine ⟨?_, ?_, ?_⟩
   ·refine runT rfl (fun K hK=>?_)
    go_simp
    go_at_call 91
    refine (zAQ y _ y0 y1).mono ?_
    rintro r ww2 ⟨rfl,hb⟩
    (try go_wp2_with fail)
    replace HA:=zIo (HA.out.gr hb)
    replace HG:=zIo (HG.out.step hb)
    clear hb
    refine hK.out _ _ HA.out (fun _=>?_)
    (try simp only [Act.put,qset])
    clear hK K
    try clear ww1
    refine ⟨?_, ?_⟩
    ·refine runT rfl (fun K hK=>?_)
     go_simp
     have hb:=(Gr.refl ww2).new (.cells #[i64 0,i64 0,i64 0,i64 0,i64 0] 140)
     have Hv : Hid (IsObj (ww2.alloc (.cells #[i64 0,i64 0,i64 0,i64 0,i64 0] 140)) ww2.heap.size [i64 0,i64 0,i64 0,i64 0,i64 0]):=IsObj.made ww2 [i64 0,i64 0,i64 0,i64 0,i64 0] 140
     have Hsv : Hid (W.heap.size ≤ ww2.heap.size):=HG.out.below.size
     replace HA:=zIo (HA.out.gr hb)
     replace HG:=zIo (HG.out.step hb)
     clear hb
     generalize ww2.alloc (.cells #[i64 0,i64 0,i64 0,i64 0,i64 0] 140) = ww3 at HA HG Hv ⊢
     generalize ww2.heap.size = bv at Hv Hsv ⊢
     refine hK.out _ _ HA.out (fun _=>?_)
     (try simp only [Act.put,qset])
     clear hK K
     try clear ww2
     refine runT rfl (fun K hK=>?_)
     go_simp
     have hb:=(Gr.refl ww3).new (.cells #[i64 0,i64 0,i64 0,i64 0,i64 0] 140)
     have Hw : Hid (IsObj (ww3.alloc (.cells #[i64 0,i64 0,i64 0,i64 0,i64 0] 140)) ww3.heap.size [i64 0,i64 0,i64 0,i64 0,i64 0]):=IsObj.made ww3 [i64 0,i64 0,i64 0,i64 0,i64 0] 140
     have Hne : Hid (bv ≠ ww3.heap.size):=by have:=Hv.out.lt; show _ ≠ _; omega
     replace Hv:=zIo (Hv.out.later hb.below)
     have Hsw : Hid (W.heap.size ≤ ww3.heap.size):=HG.out.below.size
     replace HA:=zIo (HA.out.gr hb)
     replace HG:=zIo (HG.out.step hb)
     clear hb
     generalize ww3.alloc (.cells #[i64 0,i64 0,i64 0,i64 0,i64 0] 140) = ww4 at HA HG Hw Hv ⊢
     generalize ww3.heap.size = bw at Hw Hsw Hne ⊢
     refine hK.out _ _ HA.out (fun _=>?_)
     (try simp only [Act.put,qset])
     clear hK K
     try clear ww3
     refine runT rfl (fun K hK=>?_)
     have q0:=Hv.out.at' 0 _ rfl
     have q1:=Hv.out.at' 1 _ rfl
     have q2:=Hv.out.at' 2 _ rfl
     have q3:=Hv.out.at' 3 _ rfl
     have q4:=Hv.out.at' 4 _ rfl
     have f0:=Hv.out.fz 0
     have f1:=Hv.out.fz 1
     have f2:=Hv.out.fz 2
     have f3:=Hv.out.fz 3
     have f4:=Hv.out.fz 4
     go_simp
     clear q0 q1 q2 q3 q4 f0 f1 f2 f3 f4
     obtain ⟨g1,g2,g3⟩:=set5 HG.out Hv.out Hsv.out (i64 (x % 4)) (i64 (x / 4 % 2)) (i64 (x / 8 % 8192)) (i64 (x / 65536 % 16777216)) (i64 (x / 1099511627776))
     replace HG:=zIo g1
     replace Hv:=zIo g2
     replace Hw:=zIo (g3 _ _ Hw.out Hne.out)
     clear g1 g2 g3
     generalize ((((ww4.setCell ⟨bv,0,none⟩ (i64 (x % 4))).setCell ⟨bv,1,none⟩ (i64 (x / 4 % 2))).setCell ⟨bv,2,none⟩ (i64 (x / 8 % 8192))).setCell ⟨bv,3,none⟩ (i64 (x / 65536 % 16777216))).setCell ⟨bv,4,none⟩ (i64 (x / 1099511627776)) = wy at HG Hv Hw ⊢
     replace HA:=zIo (HA0.out.gr HG.out)
     refine hK.out _ _ HA.out (fun _=>?_)
     (try simp only [Act.put,qset])
     clear hK K
     refine runT rfl (fun K hK=>?_)
     have q0:=Hw.out.at' 0 _ rfl
     have q1:=Hw.out.at' 1 _ rfl
     have q2:=Hw.out.at' 2 _ rfl
     have q3:=Hw.out.at' 3 _ rfl
     have q4:=Hw.out.at' 4 _ rfl
     have f0:=Hw.out.fz 0
     have f1:=Hw.out.fz 1
     have f2:=Hw.out.fz 2
     have f3:=Hw.out.fz 3
     have f4:=Hw.out.fz 4
     go_simp
     clear q0 q1 q2 q3 q4 f0 f1 f2 f3 f4
     obtain ⟨g1,g2,g3⟩:=set5 HG.out Hw.out Hsw.out (i64 (y % 4)) (i64 (y / 4 % 2)) (i64 (y / 8 % 8192)) (i64 (y / 65536 % 16777216)) (i64 (y / 1099511627776))
     replace HG:=zIo g1
     replace Hw:=zIo g2
     replace Hv:=zIo (g3 _ _ Hv.out (fun e=>Hne.out e.symm))
     clear g1 g2 g3
     generalize ((((wy.setCell ⟨bw,0,none⟩ (i64 (y % 4))).setCell ⟨bw,1,none⟩ (i64 (y / 4 % 2))).setCell ⟨bw,2,none⟩ (i64 (y / 8 % 8192))).setCell ⟨bw,3,none⟩ (i64 (y / 65536 % 16777216))).setCell ⟨bw,4,none⟩ (i64 (y / 1099511627776)) = wz at HG Hv Hw ⊢
     replace HA:=zIo (HA0.out.gr HG.out)
     refine hK.out _ _ HA.out (fun _=>?_)
     (try simp only [Act.put,qset])
     clear hK K
     refine zAO ?_
     go_wp2_with fail
     go_meet
     exact ⟨bv,bw,rfl,rfl,Hv,Hw,HG⟩
    ·refine runT rfl (fun K hK=>?_)
     go_simp
     have hb:=(Gr.refl ww2).new (.cells #[i64 0,i64 0,i64 0,i64 0,i64 0] 140)
     have Hw : Hid (IsObj (ww2.alloc (.cells #[i64 0,i64 0,i64 0,i64 0,i64 0] 140)) ww2.heap.size [i64 0,i64 0,i64 0,i64 0,i64 0]):=IsObj.made ww2 [i64 0,i64 0,i64 0,i64 0,i64 0] 140
     have Hsw : Hid (W.heap.size ≤ ww2.heap.size):=HG.out.below.size
     replace HA:=zIo (HA.out.gr hb)
     replace HG:=zIo (HG.out.step hb)
     clear hb
     generalize ww2.alloc (.cells #[i64 0,i64 0,i64 0,i64 0,i64 0] 140) = ww3 at HA HG Hw ⊢
     generalize ww2.heap.size = bw at Hw Hsw ⊢
     refine hK.out _ _ HA.out (fun _=>?_)
     (try simp only [Act.put,qset])
     clear hK K
     try clear ww2
     refine runT rfl (fun K hK=>?_)
     go_simp
     have hb:=(Gr.refl ww3).new (.cells #[i64 0,i64 0,i64 0,i64 0,i64 0] 140)
     have Hv : Hid (IsObj (ww3.alloc (.cells #[i64 0,i64 0,i64 0,i64 0,i64 0] 140)) ww3.heap.size [i64 0,i64 0,i64 0,i64 0,i64 0]):=IsObj.made ww3 [i64 0,i64 0,i64 0,i64 0,i64 0] 140
     have Hne : Hid (ww3.heap.size ≠ bw):=by have:=Hw.out.lt; show _ ≠ _; omega
     replace Hw:=zIo (Hw.out.later hb.below)
     have Hsv : Hid (W.heap.size ≤ ww3.heap.size):=HG.out.below.size
     replace HA:=zIo (HA.out.gr hb)
     replace HG:=zIo (HG.out.step hb)
     clear hb
     generalize ww3.alloc (.cells #[i64 0,i64 0,i64 0,i64 0,i64 0] 140) = ww4 at HA HG Hv Hw ⊢
     generalize ww3.heap.size = bv at Hv Hsv Hne ⊢
     refine hK.out _ _ HA.out (fun _=>?_)
     (try simp only [Act.put,qset])
     clear hK K
     try clear ww3
     refine runT rfl (fun K hK=>?_)
     have q0:=Hv.out.at' 0 _ rfl
     have q1:=Hv.out.at' 1 _ rfl
     have q2:=Hv.out.at' 2 _ rfl
     have q3:=Hv.out.at' 3 _ rfl
     have q4:=Hv.out.at' 4 _ rfl
     have f0:=Hv.out.fz 0
     have f1:=Hv.out.fz 1
     have f2:=Hv.out.fz 2
     have f3:=Hv.out.fz 3
     have f4:=Hv.out.fz 4
     go_simp
     clear q0 q1 q2 q3 q4 f0 f1 f2 f3 f4
     obtain ⟨g1,g2,g3⟩:=set5 HG.out Hv.out Hsv.out (i64 (x % 4)) (i64 (x / 4 % 2)) (i64 (x / 8 % 8192)) (i64 (x / 65536 % 16777216)) (i64 (x / 1099511627776))
     replace HG:=zIo g1
     replace Hv:=zIo g2
     replace Hw:=zIo (g3 _ _ Hw.out Hne.out)
     clear g1 g2 g3
     generalize ((((ww4.setCell ⟨bv,0,none⟩ (i64 (x % 4))).setCell ⟨bv,1,none⟩ (i64 (x / 4 % 2))).setCell ⟨bv,2,none⟩ (i64 (x / 8 % 8192))).setCell ⟨bv,3,none⟩ (i64 (x / 65536 % 16777216))).setCell ⟨bv,4,none⟩ (i64 (x / 1099511627776)) = wy at HG Hv Hw ⊢
     replace HA:=zIo (HA0.out.gr HG.out)
     refine hK.out _ _ HA.out (fun _=>?_)
     (try simp only [Act.put,qset])
     clear hK K
     refine runT rfl (fun K hK=>?_)
     have q0:=Hw.out.at' 0 _ rfl
     have q1:=Hw.out.at' 1 _ rfl
     have q2:=Hw.out.at' 2 _ rfl
     have q3:=Hw.out.at' 3 _ rfl
     have q4:=Hw.out.at' 4 _ rfl
     have f0:=Hw.out.fz 0
     have f1:=Hw.out.fz 1
     have f2:=Hw.out.fz 2
     have f3:=Hw.out.fz 3
     have f4:=Hw.out.fz 4
     go_simp
     clear q0 q1 q2 q3 q4 f0 f1 f2 f3 f4
     obtain ⟨g1,g2,g3⟩:=set5 HG.out Hw.out Hsw.out (i64 (y % 4)) (i64 (y / 4 % 2)) (i64 (y / 8 % 8192)) (i64 (y / 65536 % 16777216)) (i64 (y / 1099511627776))
     replace HG:=zIo g1
     replace Hw:=zIo g2
     replace Hv:=zIo (g3 _ _ Hv.out (fun e=>Hne.out e.symm))
     clear g1 g2 g3
     generalize ((((wy.setCell ⟨bw,0,none⟩ (i64 (y % 4))).setCell ⟨bw,1,none⟩ (i64 (y / 4 % 2))).setCell ⟨bw,2,none⟩ (i64 (y / 8 % 8192))).setCell ⟨bw,3,none⟩ (i64 (y / 65536 % 16777216))).setCell ⟨bw,4,none⟩ (i64 (y / 1099511627776)) = wz at HG Hv Hw ⊢
     replace HA:=zIo (HA0.out.gr HG.out)
     refine hK.out _ _ HA.out (fun _=>?_)
     (try simp only [Act.put,qset])
     clear hK K
     refine zAO ?_
     go_wp2_with fail
     go_meet
     exact ⟨bv,bw,rfl,rfl,Hv,Hw,HG⟩
   ·refine runT rfl (fun K hK=>?_)
    go_simp
    have hb:=(Gr.refl ww1).new (.cells #[i64 0,i64 0,i64 0,i64 0,i64 0] 140)
    have Hv : Hid (IsObj (ww1.alloc (.cells #[i64 0,i64 0,i64 0,i64 0,i64 0] 140)) ww1.heap.size [i64 0,i64 0,i64 0,i64 0,i64 0]):=IsObj.made ww1 [i64 0,i64 0,i64 0,i64 0,i64 0] 140
    have Hsv : Hid (W.heap.size ≤ ww1.heap.size):=HG.out.below.size
    replace HA:=zIo (HA.out.gr hb)
    replace HG:=zIo (HG.out.step hb)
    clear hb
    generalize ww1.alloc (.cells #[i64 0,i64 0,i64 0,i64 0,i64 0] 140) = ww2 at HA HG Hv ⊢
    generalize ww1.heap.size = bv at Hv Hsv ⊢
    refine hK.out _ _ HA.out (fun _=>?_)
    (try simp only [Act.put,qset])
    clear hK K
    try clear ww1
    refine ⟨?_, ?_⟩
    ·refine runT rfl (fun K hK=>?_)
     go_simp
     go_at_call 91
     refine (zAQ y _ y0 y1).mono ?_
     rintro r ww3 ⟨rfl,hb⟩
     (try go_wp2_with fail)
     replace Hv:=zIo (Hv.out.later hb.below)
     replace HA:=zIo (HA.out.gr hb)
     replace HG:=zIo (HG.out.step hb)
     clear hb
     refine hK.out _ _ HA.out (fun _=>?_)
     (try simp only [Act.put,qset])
     clear hK K
     try clear ww2
     refine runT rfl (fun K hK=>?_)
     go_simp
     have hb:=(Gr.refl ww3).new (.cells #[i64 0,i64 0,i64 0,i64 0,i64 0] 140)
     have Hw : Hid (IsObj (ww3.alloc (.cells #[i64 0,i64 0,i64 0,i64 0,i64 0] 140)) ww3.heap.size [i64 0,i64 0,i64 0,i64 0,i64 0]):=IsObj.made ww3 [i64 0,i64 0,i64 0,i64 0,i64 0] 140
     have Hne : Hid (bv ≠ ww3.heap.size):=by have:=Hv.out.lt; show _ ≠ _; omega
     replace Hv:=zIo (Hv.out.later hb.below)
     have Hsw : Hid (W.heap.size ≤ ww3.heap.size):=HG.out.below.size
     replace HA:=zIo (HA.out.gr hb)
     replace HG:=zIo (HG.out.step hb)
     clear hb
     generalize ww3.alloc (.cells #[i64 0,i64 0,i64 0,i64 0,i64 0] 140) = ww4 at HA HG Hw Hv ⊢
     generalize ww3.heap.size = bw at Hw Hsw Hne ⊢
     refine hK.out _ _ HA.out (fun _=>?_)
     (try simp only [Act.put,qset])
     clear hK K
     try clear ww3
     refine runT rfl (fun K hK=>?_)
     have q0:=Hv.out.at' 0 _ rfl
     have q1:=Hv.out.at' 1 _ rfl
     have q2:=Hv.out.at' 2 _ rfl
     have q3:=Hv.out.at' 3 _ rfl
     have q4:=Hv.out.at' 4 _ rfl
     have f0:=Hv.out.fz 0
     have f1:=Hv.out.fz 1
     have f2:=Hv.out.fz 2
     have f3:=Hv.out.fz 3
     have f4:=Hv.out.fz 4
     go_simp
     clear q0 q1 q2 q3 q4 f0 f1 f2 f3 f4
     obtain ⟨g1,g2,g3⟩:=set5 HG.out Hv.out Hsv.out (i64 (x % 4)) (i64 (x / 4 % 2)) (i64 (x / 8 % 8192)) (i64 (x / 65536 % 16777216)) (i64 (x / 1099511627776))
     replace HG:=zIo g1
     replace Hv:=zIo g2
     replace Hw:=zIo (g3 _ _ Hw.out Hne.out)
     clear g1 g2 g3
     generalize ((((ww4.setCell ⟨bv,0,none⟩ (i64 (x % 4))).setCell ⟨bv,1,none⟩ (i64 (x / 4 % 2))).setCell ⟨bv,2,none⟩ (i64 (x / 8 % 8192))).setCell ⟨bv,3,none⟩ (i64 (x / 65536 % 16777216))).setCell ⟨bv,4,none⟩ (i64 (x / 1099511627776)) = wy at HG Hv Hw ⊢
     replace HA:=zIo (HA0.out.gr HG.out)
     refine hK.out _ _ HA.out (fun _=>?_)
     (try simp only [Act.put,qset])
     clear hK K
     refine runT rfl (fun K hK=>?_)
     have q0:=Hw.out.at' 0 _ rfl
     have q1:=Hw.out.at' 1 _ rfl
     have q2:=Hw.out.at' 2 _ rfl
     have q3:=Hw.out.at' 3 _ rfl
     have q4:=Hw.out.at' 4 _ rfl
     have f0:=Hw.out.fz 0
     have f1:=Hw.out.fz 1
     have f2:=Hw.out.fz 2
     have f3:=Hw.out.fz 3
     have f4:=Hw.out.fz 4
     go_simp
     clear q0 q1 q2 q3 q4 f0 f1 f2 f3 f4
     obtain ⟨g1,g2,g3⟩:=set5 HG.out Hw.out Hsw.out (i64 (y % 4)) (i64 (y / 4 % 2)) (i64 (y / 8 % 8192)) (i64 (y / 65536 % 16777216)) (i64 (y / 1099511627776))
     replace HG:=zIo g1
     replace Hw:=zIo g2
     replace Hv:=zIo (g3 _ _ Hv.out (fun e=>Hne.out e.symm))
     clear g1 g2 g3
     generalize ((((wy.setCell ⟨bw,0,none⟩ (i64 (y % 4))).setCell ⟨bw,1,none⟩ (i64 (y / 4 % 2))).setCell ⟨bw,2,none⟩ (i64 (y / 8 % 8192))).setCell ⟨bw,3,none⟩ (i64 (y / 65536 % 16777216))).setCell ⟨bw,4,none⟩ (i64 (y / 1099511627776)) = wz at HG Hv Hw ⊢
     replace HA:=zIo (HA0.out.gr HG.out)
     refine hK.out _ _ HA.out (fun _=>?_)
     (try simp only [Act.put,qset])
     clear hK K
     refine zAO ?_
     go_wp2_with fail
     go_meet
     exact ⟨bv,bw,rfl,rfl,Hv,Hw,HG⟩
    ·refine runT rfl (fun K hK=>?_)
     go_simp
     have hb:=(Gr.refl ww2).new (.cells #[i64 0,i64 0,i64 0,i64 0,i64 0] 140)
     have Hw : Hid (IsObj (ww2.alloc (.cells #[i64 0,i64 0,i64 0,i64 0,i64 0] 140)) ww2.heap.size [i64 0,i64 0,i64 0,i64 0,i64 0]):=IsObj.made ww2 [i64 0,i64 0,i64 0,i64 0,i64 0] 140
     have Hne : Hid (bv ≠ ww2.heap.size):=by have:=Hv.out.lt; show _ ≠ _; omega
     replace Hv:=zIo (Hv.out.later hb.below)
     have Hsw : Hid (W.heap.size ≤ ww2.heap.size):=HG.out.below.size
     replace HA:=zIo (HA.out.gr hb)
     replace HG:=zIo (HG.out.step hb)
     clear hb
     generalize ww2.alloc (.cells #[i64 0,i64 0,i64 0,i64 0,i64 0] 140) = ww3 at HA HG Hw Hv ⊢
     generalize ww2.heap.size = bw at Hw Hsw Hne ⊢
     refine hK.out _ _ HA.out (fun _=>?_)
     (try simp only [Act.put,qset])
     clear hK K
     try clear ww2
     refine runT rfl (fun K hK=>?_)
     go_simp
     go_at_call 91
     refine (zAQ y _ y0 y1).mono ?_
     rintro r ww4 ⟨rfl,hb⟩
     (try go_wp2_with fail)
     replace Hv:=zIo (Hv.out.later hb.below)
     replace Hw:=zIo (Hw.out.later hb.below)
     replace HA:=zIo (HA.out.gr hb)
     replace HG:=zIo (HG.out.step hb)
     clear hb
     refine hK.out _ _ HA.out (fun _=>?_)
     (try simp only [Act.put,qset])
     clear hK K
     try clear ww3
     refine runT rfl (fun K hK=>?_)
     have q0:=Hv.out.at' 0 _ rfl
     have q1:=Hv.out.at' 1 _ rfl
     have q2:=Hv.out.at' 2 _ rfl
     have q3:=Hv.out.at' 3 _ rfl
     have q4:=Hv.out.at' 4 _ rfl
     have f0:=Hv.out.fz 0
     have f1:=Hv.out.fz 1
     have f2:=Hv.out.fz 2
     have f3:=Hv.out.fz 3
     have f4:=Hv.out.fz 4
     go_simp
     clear q0 q1 q2 q3 q4 f0 f1 f2 f3 f4
     obtain ⟨g1,g2,g3⟩:=set5 HG.out Hv.out Hsv.out (i64 (x % 4)) (i64 (x / 4 % 2)) (i64 (x / 8 % 8192)) (i64 (x / 65536 % 16777216)) (i64 (x / 1099511627776))
     replace HG:=zIo g1
     replace Hv:=zIo g2
     replace Hw:=zIo (g3 _ _ Hw.out Hne.out)
     clear g1 g2 g3
     generalize ((((ww4.setCell ⟨bv,0,none⟩ (i64 (x % 4))).setCell ⟨bv,1,none⟩ (i64 (x / 4 % 2))).setCell ⟨bv,2,none⟩ (i64 (x / 8 % 8192))).setCell ⟨bv,3,none⟩ (i64 (x / 65536 % 16777216))).setCell ⟨bv,4,none⟩ (i64 (x / 1099511627776)) = wy at HG Hv Hw ⊢
     replace HA:=zIo (HA0.out.gr HG.out)
     refine hK.out _ _ HA.out (fun _=>?_)
     (try simp only [Act.put,qset])
     clear hK K
     refine runT rfl (fun K hK=>?_)
     have q0:=Hw.out.at' 0 _ rfl
     have q1:=Hw.out.at' 1 _ rfl
     have q2:=Hw.out.at' 2 _ rfl
     have q3:=Hw.out.at' 3 _ rfl
     have q4:=Hw.out.at' 4 _ rfl
     have f0:=Hw.out.fz 0
     have f1:=Hw.out.fz 1
     have f2:=Hw.out.fz 2
     have f3:=Hw.out.fz 3
     have f4:=Hw.out.fz 4
     go_simp
     clear q0 q1 q2 q3 q4 f0 f1 f2 f3 f4
     obtain ⟨g1,g2,g3⟩:=set5 HG.out Hw.out Hsw.out (i64 (y % 4)) (i64 (y / 4 % 2)) (i64 (y / 8 % 8192)) (i64 (y / 65536 % 16777216)) (i64 (y / 1099511627776))
     replace HG:=zIo g1
     replace Hw:=zIo g2
     replace Hv:=zIo (g3 _ _ Hv.out (fun e=>Hne.out e.symm))
     clear g1 g2 g3
     generalize ((((wy.setCell ⟨bw,0,none⟩ (i64 (y % 4))).setCell ⟨bw,1,none⟩ (i64 (y / 4 % 2))).setCell ⟨bw,2,none⟩ (i64 (y / 8 % 8192))).setCell ⟨bw,3,none⟩ (i64 (y / 65536 % 16777216))).setCell ⟨bw,4,none⟩ (i64 (y / 1099511627776)) = wz at HG Hv Hw ⊢
     replace HA:=zIo (HA0.out.gr HG.out)
     refine hK.out _ _ HA.out (fun _=>?_)
     (try simp only [Act.put,qset])
     clear hK K
     refine zAO ?_
     go_wp2_with fail
     go_meet
     exact ⟨bv,bw,rfl,rfl,Hv,Hw,HG⟩
   ·refine runT rfl (fun K hK=>?_)
    go_simp
    have hb:=(Gr.refl ww1).new (.cells #[i64 0,i64 0,i64 0,i64 0,i64 0] 140)
    have Hw : Hid (IsObj (ww1.alloc (.cells #[i64 0,i64 0,i64 0,i64 0,i64 0] 140)) ww1.heap.size [i64 0,i64 0,i64 0,i64 0,i64 0]):=IsObj.made ww1 [i64 0,i64 0,i64 0,i64 0,i64 0] 140
    have Hsw : Hid (W.heap.size ≤ ww1.heap.size):=HG.out.below.size
    replace HA:=zIo (HA.out.gr hb)
    replace HG:=zIo (HG.out.step hb)
    clear hb
    generalize ww1.alloc (.cells #[i64 0,i64 0,i64 0,i64 0,i64 0] 140) = ww2 at HA HG Hw ⊢
    generalize ww1.heap.size = bw at Hw Hsw ⊢
    refine hK.out _ _ HA.out (fun _=>?_)
    (try simp only [Act.put,qset])
    clear hK K
    try clear ww1
    refine ⟨?_, ?_⟩
    ·refine runT rfl (fun K hK=>?_)
     go_simp
     go_at_call 91
     refine (zAQ y _ y0 y1).mono ?_
     rintro r ww3 ⟨rfl,hb⟩
     (try go_wp2_with fail)
     replace Hw:=zIo (Hw.out.later hb.below)
     replace HA:=zIo (HA.out.gr hb)
     replace HG:=zIo (HG.out.step hb)
     clear hb
     refine hK.out _ _ HA.out (fun _=>?_)
     (try simp only [Act.put,qset])
     clear hK K
     try clear ww2
     refine runT rfl (fun K hK=>?_)
     go_simp
     have hb:=(Gr.refl ww3).new (.cells #[i64 0,i64 0,i64 0,i64 0,i64 0] 140)
     have Hv : Hid (IsObj (ww3.alloc (.cells #[i64 0,i64 0,i64 0,i64 0,i64 0] 140)) ww3.heap.size [i64 0,i64 0,i64 0,i64 0,i64 0]):=IsObj.made ww3 [i64 0,i64 0,i64 0,i64 0,i64 0] 140
     have Hne : Hid (ww3.heap.size ≠ bw):=by have:=Hw.out.lt; show _ ≠ _; omega
     replace Hw:=zIo (Hw.out.later hb.below)
     have Hsv : Hid (W.heap.size ≤ ww3.heap.size):=HG.out.below.size
     replace HA:=zIo (HA.out.gr hb)
     replace HG:=zIo (HG.out.step hb)
     clear hb
     generalize ww3.alloc (.cells #[i64 0,i64 0,i64 0,i64 0,i64 0] 140) = ww4 at HA HG Hv Hw ⊢
     generalize ww3.heap.size = bv at Hv Hsv Hne ⊢
     refine hK.out _ _ HA.out (fun _=>?_)
     (try simp only [Act.put,qset])
     clear hK K
     try clear ww3
     refine runT rfl (fun K hK=>?_)
     have q0:=Hv.out.at' 0 _ rfl
     have q1:=Hv.out.at' 1 _ rfl
     have q2:=Hv.out.at' 2 _ rfl
     have q3:=Hv.out.at' 3 _ rfl
     have q4:=Hv.out.at' 4 _ rfl
     have f0:=Hv.out.fz 0
     have f1:=Hv.out.fz 1
     have f2:=Hv.out.fz 2
     have f3:=Hv.out.fz 3
     have f4:=Hv.out.fz 4
     go_simp
     clear q0 q1 q2 q3 q4 f0 f1 f2 f3 f4
     obtain ⟨g1,g2,g3⟩:=set5 HG.out Hv.out Hsv.out (i64 (x % 4)) (i64 (x / 4 % 2)) (i64 (x / 8 % 8192)) (i64 (x / 65536 % 16777216)) (i64 (x / 1099511627776))
     replace HG:=zIo g1
     replace Hv:=zIo g2
     replace Hw:=zIo (g3 _ _ Hw.out Hne.out)
     clear g1 g2 g3
     generalize ((((ww4.setCell ⟨bv,0,none⟩ (i64 (x % 4))).setCell ⟨bv,1,none⟩ (i64 (x / 4 % 2))).setCell ⟨bv,2,none⟩ (i64 (x / 8 % 8192))).setCell ⟨bv,3,none⟩ (i64 (x / 65536 % 16777216))).setCell ⟨bv,4,none⟩ (i64 (x / 1099511627776)) = wy at HG Hv Hw ⊢
     replace HA:=zIo (HA0.out.gr HG.out)
     refine hK.out _ _ HA.out (fun _=>?_)
     (try simp only [Act.put,qset])
     clear hK K
     refine runT rfl (fun K hK=>?_)
     have q0:=Hw.out.at' 0 _ rfl
     have q1:=Hw.out.at' 1 _ rfl
     have q2:=Hw.out.at' 2 _ rfl
     have q3:=Hw.out.at' 3 _ rfl
     have q4:=Hw.out.at' 4 _ rfl
     have f0:=Hw.out.fz 0
     have f1:=Hw.out.fz 1
     have f2:=Hw.out.fz 2
     have f3:=Hw.out.fz 3
     have f4:=Hw.out.fz 4
     go_simp
     clear q0 q1 q2 q3 q4 f0 f1 f2 f3 f4
     obtain ⟨g1,g2,g3⟩:=set5 HG.out Hw.out Hsw.out (i64 (y % 4)) (i64 (y / 4 % 2)) (i64 (y / 8 % 8192)) (i64 (y / 65536 % 16777216)) (i64 (y / 1099511627776))
     replace HG:=zIo g1
     replace Hw:=zIo g2
     replace Hv:=zIo (g3 _ _ Hv.out (fun e=>Hne.out e.symm))
     clear g1 g2 g3
     generalize ((((wy.setCell ⟨bw,0,none⟩ (i64 (y % 4))).setCell ⟨bw,1,none⟩ (i64 (y / 4 % 2))).setCell ⟨bw,2,none⟩ (i64 (y / 8 % 8192))).setCell ⟨bw,3,none⟩ (i64 (y / 65536 % 16777216))).setCell ⟨bw,4,none⟩ (i64 (y / 1099511627776)) = wz at HG Hv Hw ⊢
     replace HA:=zIo (HA0.out.gr HG.out)
     refine hK.out _ _ HA.out (fun _=>?_)
     (try simp only [Act.put,qset])
     clear hK K
     refine zAO ?_
     go_wp2_with fail
     go_meet
     exact ⟨bv,bw,rfl,rfl,Hv,Hw,HG⟩
    ·refine runT rfl (fun K hK=>?_)
     go_simp
     have hb:=(Gr.refl ww2).new (.cells #[i64 0,i64 0,i64 0,i64 0,i64 0] 140)
     have Hv : Hid (IsObj (ww2.alloc (.cells #[i64 0,i64 0,i64 0,i64 0,i64 0] 140)) ww2.heap.size [i64 0,i64 0,i64 0,i64 0,i64 0]):=IsObj.made ww2 [i64 0,i64 0,i64 0,i64 0,i64 0] 140
     have Hne : Hid (ww2.heap.size ≠ bw):=by have:=Hw.out.lt; show _ ≠ _; omega
     replace Hw:=zIo (Hw.out.later hb.below)
     have Hsv : Hid (W.heap.size ≤ ww2.heap.size):=HG.out.below.size
     replace HA:=zIo (HA.out.gr hb)
     replace HG:=zIo (HG.out.step hb)
     clear hb
     generalize ww2.alloc (.cells #[i64 0,i64 0,i64 0,i64 0,i64 0] 140) = ww3 at HA HG Hv Hw ⊢
     generalize ww2.heap.size = bv at Hv Hsv Hne ⊢
     refine hK.out _ _ HA.out (fun _=>?_)
     (try simp only [Act.put,qset])
     clear hK K
     try clear ww2
     refine runT rfl (fun K hK=>?_)
     go_simp
     go_at_call 91
     refine (zAQ y _ y0 y1).mono ?_
     rintro r ww4 ⟨rfl,hb⟩
     (try go_wp2_with fail)
     replace Hv:=zIo (Hv.out.later hb.below)
     replace Hw:=zIo (Hw.out.later hb.below)
     replace HA:=zIo (HA.out.gr hb)
     replace HG:=zIo (HG.out.step hb)
     clear hb
     refine hK.out _ _ HA.out (fun _=>?_)
     (try simp only [Act.put,qset])
     clear hK K
     try clear ww3
     refine runT rfl (fun K hK=>?_)
     have q0:=Hv.out.at' 0 _ rfl
     have q1:=Hv.out.at' 1 _ rfl
     have q2:=Hv.out.at' 2 _ rfl
     have q3:=Hv.out.at' 3 _ rfl
     have q4:=Hv.out.at' 4 _ rfl
     have f0:=Hv.out.fz 0
     have f1:=Hv.out.fz 1
     have f2:=Hv.out.fz 2
     have f3:=Hv.out.fz 3
     have f4:=Hv.out.fz 4
     go_simp
     clear q0 q1 q2 q3 q4 f0 f1 f2 f3 f4
     obtain ⟨g1,g2,g3⟩:=set5 HG.out Hv.out Hsv.out (i64 (x % 4)) (i64 (x / 4 % 2)) (i64 (x / 8 % 8192)) (i64 (x / 65536 % 16777216)) (i64 (x / 1099511627776))
     replace HG:=zIo g1
     replace Hv:=zIo g2
     replace Hw:=zIo (g3 _ _ Hw.out Hne.out)
     clear g1 g2 g3
     generalize ((((ww4.setCell ⟨bv,0,none⟩ (i64 (x % 4))).setCell ⟨bv,1,none⟩ (i64 (x / 4 % 2))).setCell ⟨bv,2,none⟩ (i64 (x / 8 % 8192))).setCell ⟨bv,3,none⟩ (i64 (x / 65536 % 16777216))).setCell ⟨bv,4,none⟩ (i64 (x / 1099511627776)) = wy at HG Hv Hw ⊢
     replace HA:=zIo (HA0.out.gr HG.out)
     refine hK.out _ _ HA.out (fun _=>?_)
     (try simp only [Act.put,qset])
     clear hK K
     refine runT rfl (fun K hK=>?_)
     have q0:=Hw.out.at' 0 _ rfl
     have q1:=Hw.out.at' 1 _ rfl
     have q2:=Hw.out.at' 2 _ rfl
     have q3:=Hw.out.at' 3 _ rfl
     have q4:=Hw.out.at' 4 _ rfl
     have f0:=Hw.out.fz 0
     have f1:=Hw.out.fz 1
     have f2:=Hw.out.fz 2
     have f3:=Hw.out.fz 3
     have f4:=Hw.out.fz 4
     go_simp
     clear q0 q1 q2 q3 q4 f0 f1 f2 f3 f4
     obtain ⟨g1,g2,g3⟩:=set5 HG.out Hw.out Hsw.out (i64 (y % 4)) (i64 (y / 4 % 2)) (i64 (y / 8 % 8192)) (i64 (y / 65536 % 16777216)) (i64 (y / 1099511627776))
     replace HG:=zIo g1
     replace Hw:=zIo g2
     replace Hv:=zIo (g3 _ _ Hv.out (fun e=>Hne.out e.symm))
     clear g1 g2 g3
     generalize ((((wy.setCell ⟨bw,0,none⟩ (i64 (y % 4))).setCell ⟨bw,1,none⟩ (i64 (y / 4 % 2))).setCell ⟨bw,2,none⟩ (i64 (y / 8 % 8192))).setCell ⟨bw,3,none⟩ (i64 (y / 65536 % 16777216))).setCell ⟨bw,4,none⟩ (i64 (y / 1099511627776)) = wz at HG Hv Hw ⊢
     replace HA:=zIo (HA0.out.gr HG.out)
     refine hK.out _ _ HA.out (fun _=>?_)
     (try simp only [Act.put,qset])
     clear hK K
     refine zAO ?_
     go_wp2_with fail
     go_meet
     exact ⟨bv,bw,rfl,rfl,Hv,Hw,HG⟩
  ·refine runT rfl (fun K hK=>?_)
   go_simp
   have hb:=(Gr.refl ww0).new (.cells #[i64 0,i64 0,i64 0,i64 0,i64 0] 140)
   have Hv : Hid (IsObj (ww0.alloc (.cells #[i64 0,i64 0,i64 0,i64 0,i64 0] 140)) ww0.heap.size [i64 0,i64 0,i64 0,i64 0,i64 0]):=IsObj.made ww0 [i64 0,i64 0,i64 0,i64 0,i64 0] 140
   have Hsv : Hid (W.heap.size ≤ ww0.heap.size):=HG.out.below.size
   replace HA:=zIo (HA.out.gr hb)
   replace HG:=zIo (HG.out.step hb)
   clear hb
   generalize ww0.alloc (.cells #[i64 0,i64 0,i64 0,i64 0,i64 0] 140) = ww1 at HA HG Hv ⊢
   generalize ww0.heap.size = bv at Hv Hsv ⊢
   refine hK.out _ _ HA.out (fun _=>?_)
   (try simp only [Act.put,qset])
   clear hK K
   try clear ww0
   refine ⟨?_, ?_⟩
   ·refine runT rfl (fun K hK=>?_)
    go_simp
    go_at_call 91
    refine (zAQ x _ x0 x1).mono ?_
    rintro r ww2 ⟨rfl,hb⟩
    (try go_wp2_with fail)
    replace Hv:=zIo (Hv.out.later hb.below)
    replace HA:=zIo (HA.out.gr hb)
    replace HG:=zIo (HG.out.step hb)
    clear hb
    refine hK.out _ _ HA.out (fun _=>?_)
    (try simp only [Act.put,qset])
    clear hK K
    try clear ww1
    refine ⟨?_, ?_⟩
    ·refine runT rfl (fun K hK=>?_)
     go_simp
     go_at_call 91
     refine (zAQ y _ y0 y1).mono ?_
     rintro r ww3 ⟨rfl,hb⟩
     (try go_wp2_with fail)
     replace Hv:=zIo (Hv.out.later hb.below)
     replace HA:=zIo (HA.out.gr hb)
     replace HG:=zIo (HG.out.step hb)
     clear hb
     refine hK.out _ _ HA.out (fun _=>?_)
     (try simp only [Act.put,qset])
     clear hK K
     try clear ww2
     refine runT rfl (fun K hK=>?_)
     go_simp
     have hb:=(Gr.refl ww3).new (.cells #[i64 0,i64 0,i64 0,i64 0,i64 0] 140)
     have Hw : Hid (IsObj (ww3.alloc (.cells #[i64 0,i64 0,i64 0,i64 0,i64 0] 140)) ww3.heap.size [i64 0,i64 0,i64 0,i64 0,i64 0]):=IsObj.made ww3 [i64 0,i64 0,i64 0,i64 0,i64 0] 140
     have Hne : Hid (bv ≠ ww3.heap.size):=by have:=Hv.out.lt; show _ ≠ _; omega
     replace Hv:=zIo (Hv.out.later hb.below)
     have Hsw : Hid (W.heap.size ≤ ww3.heap.size):=HG.out.below.size
     replace HA:=zIo (HA.out.gr hb)
     replace HG:=zIo (HG.out.step hb)
     clear hb
     generalize ww3.alloc (.cells #[i64 0,i64 0,i64 0,i64 0,i64 0] 140) = ww4 at HA HG Hw Hv ⊢
     generalize ww3.heap.size = bw at Hw Hsw Hne ⊢
     refine hK.out _ _ HA.out (fun _=>?_)
     (try simp only [Act.put,qset])
     clear hK K
     try clear ww3
     refine runT rfl (fun K hK=>?_)
     have q0:=Hv.out.at' 0 _ rfl
     have q1:=Hv.out.at' 1 _ rfl
     have q2:=Hv.out.at' 2 _ rfl
     have q3:=Hv.out.at' 3 _ rfl
     have q4:=Hv.out.at' 4 _ rfl
     have f0:=Hv.out.fz 0
     have f1:=Hv.out.fz 1
     have f2:=Hv.out.fz 2
     have f3:=Hv.out.fz 3
     have f4:=Hv.out.fz 4
     go_simp
     clear q0 q1 q2 q3 q4 f0 f1 f2 f3 f4
     obtain ⟨g1,g2,g3⟩:=set5 HG.out Hv.out Hsv.out (i64 (x % 4)) (i64 (x / 4 % 2)) (i64 (x / 8 % 8192)) (i64 (x / 65536 % 16777216)) (i64 (x / 1099511627776))
     replace HG:=zIo g1
     replace Hv:=zIo g2
     replace Hw:=zIo (g3 _ _ Hw.out Hne.out)
     clear g1 g2 g3
     generalize ((((ww4.setCell ⟨bv,0,none⟩ (i64 (x % 4))).setCell ⟨bv,1,none⟩ (i64 (x / 4 % 2))).setCell ⟨bv,2,none⟩ (i64 (x / 8 % 8192))).setCell ⟨bv,3,none⟩ (i64 (x / 65536 % 16777216))).setCell ⟨bv,4,none⟩ (i64 (x / 1099511627776)) = wy at HG Hv Hw ⊢
     replace HA:=zIo (HA0.out.gr HG.out)
     refine hK.out _ _ HA.out (fun _=>?_)
     (try simp only [Act.put,qset])
     clear hK K
     refine runT rfl (fun K hK=>?_)
     have q0:=Hw.out.at' 0 _ rfl
     have q1:=Hw.out.at' 1 _ rfl
     have q2:=Hw.out.at' 2 _ rfl
     have q3:=Hw.out.at' 3 _ rfl
     have q4:=Hw.out.at' 4 _ rfl
     have f0:=Hw.out.fz 0
     have f1:=Hw.out.fz 1
     have f2:=Hw.out.fz 2
     have f3:=Hw.out.fz 3
     have f4:=Hw.out.fz 4
     go_simp
     clear q0 q1 q2 q3 q4 f0 f1 f2 f3 f4
     obtain ⟨g1,g2,g3⟩:=set5 HG.out Hw.out Hsw.out (i64 (y % 4)) (i64 (y / 4 % 2)) (i64 (y / 8 % 8192)) (i64 (y / 65536 % 16777216)) (i64 (y / 1099511627776))
     replace HG:=zIo g1
     replace Hw:=zIo g2
     replace Hv:=zIo (g3 _ _ Hv.out (fun e=>Hne.out e.symm))
     clear g1 g2 g3
     generalize ((((wy.setCell ⟨bw,0,none⟩ (i64 (y % 4))).setCell ⟨bw,1,none⟩ (i64 (y / 4 % 2))).setCell ⟨bw,2,none⟩ (i64 (y / 8 % 8192))).setCell ⟨bw,3,none⟩ (i64 (y / 65536 % 16777216))).setCell ⟨bw,4,none⟩ (i64 (y / 1099511627776)) = wz at HG Hv Hw ⊢
     replace HA:=zIo (HA0.out.gr HG.out)
     refine hK.out _ _ HA.out (fun _=>?_)
     (try simp only [Act.put,qset])
     clear hK K
     refine zAO ?_
     go_wp2_with fail
     go_meet
     exact ⟨bv,bw,rfl,rfl,Hv,Hw,HG⟩
    ·refine runT rfl (fun K hK=>?_)
     go_simp
     have hb:=(Gr.refl ww2).new (.cells #[i64 0,i64 0,i64 0,i64 0,i64 0] 140)
     have Hw : Hid (IsObj (ww2.alloc (.cells #[i64 0,i64 0,i64 0,i64 0,i64 0] 140)) ww2.heap.size [i64 0,i64 0,i64 0,i64 0,i64 0]):=IsObj.made ww2 [i64 0,i64 0,i64 0,i64 0,i64 0] 140
     have Hne : Hid (bv ≠ ww2.heap.size):=by have:=Hv.out.lt; show _ ≠ _; omega
     replace Hv:=zIo (Hv.out.later hb.below)
     have Hsw : Hid (W.heap.size ≤ ww2.heap.size):=HG.out.below.size
     replace HA:=zIo (HA.out.gr hb)
     replace HG:=zIo (HG.out.step hb)
     clear hb
     generalize ww2.alloc (.cells #[i64 0,i64 0,i64 0,i64 0,i64 0] 140) = ww3 at HA HG Hw Hv ⊢
     generalize ww2.heap.size = bw at Hw Hsw Hne ⊢
     refine hK.out _ _ HA.out (fun _=>?_)
     (try simp only [Act.put,qset])
     clear hK K
     try clear ww2
     refine runT rfl (fun K hK=>?_)
     go_simp
     go_at_call 91
     refine (zAQ y _ y0 y1).mono ?_
     rintro r ww4 ⟨rfl,hb⟩
     (try go_wp2_with fail)
     replace Hv:=zIo (Hv.out.later hb.below)
     replace Hw:=zIo (Hw.out.later hb.below)
     replace HA:=zIo (HA.out.gr hb)
     replace HG:=zIo (HG.out.step hb)
     clear hb
     refine hK.out _ _ HA.out (fun _=>?_)
     (try simp only [Act.put,qset])
     clear hK K
     try clear ww3
     refine runT rfl (fun K hK=>?_)
     have q0:=Hv.out.at' 0 _ rfl
     have q1:=Hv.out.at' 1 _ rfl
     have q2:=Hv.out.at' 2 _ rfl
     have q3:=Hv.out.at' 3 _ rfl
     have q4:=Hv.out.at' 4 _ rfl
     have f0:=Hv.out.fz 0
     have f1:=Hv.out.fz 1
     have f2:=Hv.out.fz 2
     have f3:=Hv.out.fz 3
     have f4:=Hv.out.fz 4
     go_simp
     clear q0 q1 q2 q3 q4 f0 f1 f2 f3 f4
     obtain ⟨g1,g2,g3⟩:=set5 HG.out Hv.out Hsv.out (i64 (x % 4)) (i64 (x / 4 % 2)) (i64 (x / 8 % 8192)) (i64 (x / 65536 % 16777216)) (i64 (x / 1099511627776))
     replace HG:=zIo g1
     replace Hv:=zIo g2
     replace Hw:=zIo (g3 _ _ Hw.out Hne.out)
     clear g1 g2 g3
     generalize ((((ww4.setCell ⟨bv,0,none⟩ (i64 (x % 4))).setCell ⟨bv,1,none⟩ (i64 (x / 4 % 2))).setCell ⟨bv,2,none⟩ (i64 (x / 8 % 8192))).setCell ⟨bv,3,none⟩ (i64 (x / 65536 % 16777216))).setCell ⟨bv,4,none⟩ (i64 (x / 1099511627776)) = wy at HG Hv Hw ⊢
     replace HA:=zIo (HA0.out.gr HG.out)
     refine hK.out _ _ HA.out (fun _=>?_)
     (try simp only [Act.put,qset])
     clear hK K
     refine runT rfl (fun K hK=>?_)
     have q0:=Hw.out.at' 0 _ rfl
     have q1:=Hw.out.at' 1 _ rfl
     have q2:=Hw.out.at' 2 _ rfl
     have q3:=Hw.out.at' 3 _ rfl
     have q4:=Hw.out.at' 4 _ rfl
     have f0:=Hw.out.fz 0
     have f1:=Hw.out.fz 1
     have f2:=Hw.out.fz 2
     have f3:=Hw.out.fz 3
     have f4:=Hw.out.fz 4
     go_simp
     clear q0 q1 q2 q3 q4 f0 f1 f2 f3 f4
     obtain ⟨g1,g2,g3⟩:=set5 HG.out Hw.out Hsw.out (i64 (y % 4)) (i64 (y / 4 % 2)) (i64 (y / 8 % 8192)) (i64 (y / 65536 % 16777216)) (i64 (y / 1099511627776))
     replace HG:=zIo g1
     replace Hw:=zIo g2
     replace Hv:=zIo (g3 _ _ Hv.out (fun e=>Hne.out e.symm))
     clear g1 g2 g3
     generalize ((((wy.setCell ⟨bw,0,none⟩ (i64 (y % 4))).setCell ⟨bw,1,none⟩ (i64 (y / 4 % 2))).setCell ⟨bw,2,none⟩ (i64 (y / 8 % 8192))).setCell ⟨bw,3,none⟩ (i64 (y / 65536 % 16777216))).setCell ⟨bw,4,none⟩ (i64 (y / 1099511627776)) = wz at HG Hv Hw ⊢
     replace HA:=zIo (HA0.out.gr HG.out)
     refine hK.out _ _ HA.out (fun _=>?_)
     (try simp only [Act.put,qset])
     clear hK K
     refine zAO ?_
     go_wp2_with fail
     go_meet
     exact ⟨bv,bw,rfl,rfl,Hv,Hw,HG⟩
   ·refine runT rfl (fun K hK=>?_)
    go_simp
    have hb:=(Gr.refl ww1).new (.cells #[i64 0,i64 0,i64 0,i64 0,i64 0] 140)
    have Hw : Hid (IsObj (ww1.alloc (.cells #[i64 0,i64 0,i64 0,i64 0,i64 0] 140)) ww1.heap.size [i64 0,i64 0,i64 0,i64 0,i64 0]):=IsObj.made ww1 [i64 0,i64 0,i64 0,i64 0,i64 0] 140
    have Hne : Hid (bv ≠ ww1.heap.size):=by have:=Hv.out.lt; show _ ≠ _; omega
    replace Hv:=zIo (Hv.out.later hb.below)
    have Hsw : Hid (W.heap.size ≤ ww1.heap.size):=HG.out.below.size
    replace HA:=zIo (HA.out.gr hb)
    replace HG:=zIo (HG.out.step hb)
    clear hb
    generalize ww1.alloc (.cells #[i64 0,i64 0,i64 0,i64 0,i64 0] 140) = ww2 at HA HG Hw Hv ⊢
    generalize ww1.heap.size = bw at Hw Hsw Hne ⊢
    refine hK.out _ _ HA.out (fun _=>?_)
    (try simp only [Act.put,qset])
    clear hK K
    try clear ww1
    refine runT rfl (fun K hK=>?_)
    go_simp
    go_at_call 91
    refine (zAQ x _ x0 x1).mono ?_
    rintro r ww3 ⟨rfl,hb⟩
    (try go_wp2_with fail)
    replace Hv:=zIo (Hv.out.later hb.below)
    replace Hw:=zIo (Hw.out.later hb.below)
    replace HA:=zIo (HA.out.gr hb)
    replace HG:=zIo (HG.out.step hb)
    clear hb
    refine hK.out _ _ HA.out (fun _=>?_)
    (try simp only [Act.put,qset])
    clear hK K
    try clear ww2
    refine runT rfl (fun K hK=>?_)
    go_simp
    go_at_call 91
    refine (zAQ y _ y0 y1).mono ?_
    rintro r ww4 ⟨rfl,hb⟩
    (try go_wp2_with fail)
    replace Hv:=zIo (Hv.out.later hb.below)
    replace Hw:=zIo (Hw.out.later hb.below)
    replace HA:=zIo (HA.out.gr hb)
    replace HG:=zIo (HG.out.step hb)
    clear hb
    refine hK.out _ _ HA.out (fun _=>?_)
    (try simp only [Act.put,qset])
    clear hK K
    try clear ww3
    refine runT rfl (fun K hK=>?_)
    have q0:=Hv.out.at' 0 _ rfl
    have q1:=Hv.out.at' 1 _ rfl
    have q2:=Hv.out.at' 2 _ rfl
    have q3:=Hv.out.at' 3 _ rfl
    have q4:=Hv.out.at' 4 _ rfl
    have f0:=Hv.out.fz 0
    have f1:=Hv.out.fz 1
    have f2:=Hv.out.fz 2
    have f3:=Hv.out.fz 3
    have f4:=Hv.out.fz 4
    go_simp
    clear q0 q1 q2 q3 q4 f0 f1 f2 f3 f4
    obtain ⟨g1,g2,g3⟩:=set5 HG.out Hv.out Hsv.out (i64 (x % 4)) (i64 (x / 4 % 2)) (i64 (x / 8 % 8192)) (i64 (x / 65536 % 16777216)) (i64 (x / 1099511627776))
    replace HG:=zIo g1
    replace Hv:=zIo g2
    replace Hw:=zIo (g3 _ _ Hw.out Hne.out)
    clear g1 g2 g3
    generalize ((((ww4.setCell ⟨bv,0,none⟩ (i64 (x % 4))).setCell ⟨bv,1,none⟩ (i64 (x / 4 % 2))).setCell ⟨bv,2,none⟩ (i64 (x / 8 % 8192))).setCell ⟨bv,3,none⟩ (i64 (x / 65536 % 16777216))).setCell ⟨bv,4,none⟩ (i64 (x / 1099511627776)) = wy at HG Hv Hw ⊢
    replace HA:=zIo (HA0.out.gr HG.out)
    refine hK.out _ _ HA.out (fun _=>?_)
    (try simp only [Act.put,qset])
    clear hK K
    refine runT rfl (fun K hK=>?_)
    have q0:=Hw.out.at' 0 _ rfl
    have q1:=Hw.out.at' 1 _ rfl
    have q2:=Hw.out.at' 2 _ rfl
    have q3:=Hw.out.at' 3 _ rfl
    have q4:=Hw.out.at' 4 _ rfl
    have f0:=Hw.out.fz 0
    have f1:=Hw.out.fz 1
    have f2:=Hw.out.fz 2
    have f3:=Hw.out.fz 3
    have f4:=Hw.out.fz 4
    go_simp
    clear q0 q1 q2 q3 q4 f0 f1 f2 f3 f4
    obtain ⟨g1,g2,g3⟩:=set5 HG.out Hw.out Hsw.out (i64 (y % 4)) (i64 (y / 4 % 2)) (i64 (y / 8 % 8192)) (i64 (y / 65536 % 16777216)) (i64 (y / 1099511627776))
    replace HG:=zIo g1
    replace Hw:=zIo g2
    replace Hv:=zIo (g3 _ _ Hv.out (fun e=>Hne.out e.symm))
    clear g1 g2 g3
    generalize ((((wy.setCell ⟨bw,0,none⟩ (i64 (y % 4))).setCell ⟨bw,1,none⟩ (i64 (y / 4 % 2))).setCell ⟨bw,2,none⟩ (i64 (y / 8 % 8192))).setCell ⟨bw,3,none⟩ (i64 (y / 65536 % 16777216))).setCell ⟨bw,4,none⟩ (i64 (y / 1099511627776)) = wz at HG Hv Hw ⊢
    replace HA:=zIo (HA0.out.gr HG.out)
    refine hK.out _ _ HA.out (fun _=>?_)
    (try simp only [Act.put,qset])
    clear hK K
    refine zAO ?_
    go_wp2_with fail
    go_meet
    exact ⟨bv,bw,rfl,rfl,Hv,Hw,HG⟩
  ·refine runT rfl (fun K hK=>?_)
   go_simp
   have hb:=(Gr.refl ww0).new (.cells #[i64 0,i64 0,i64 0,i64 0,i64 0] 140)
   have Hw : Hid (IsObj (ww0.alloc (.cells #[i64 0,i64 0,i64 0,i64 0,i64 0] 140)) ww0.heap.size [i64 0,i64 0,i64 0,i64 0,i64 0]):=IsObj.made ww0 [i64 0,i64 0,i64 0,i64 0,i64 0] 140
   have Hsw : Hid (W.heap.size ≤ ww0.heap.size):=HG.out.below.size
   replace HA:=zIo (HA.out.gr hb)
   replace HG:=zIo (HG.out.step hb)
   clear hb
   generalize ww0.alloc (.cells #[i64 0,i64 0,i64 0,i64 0,i64 0] 140) = ww1 at HA HG Hw ⊢
   generalize ww0.heap.size = bw at Hw Hsw ⊢
   refine hK.out _ _ HA.out (fun _=>?_)
   (try simp only [Act.put,qset])
   clear hK K
   try clear ww0
   refine ⟨?_, ?_⟩
   ·refine runT rfl (fun K hK=>?_)
    go_simp
    go_at_call 91
    refine (zAQ x _ x0 x1).mono ?_
    rintro r ww2 ⟨rfl,hb⟩
    (try go_wp2_with fail)
    replace Hw:=zIo (Hw.out.later hb.below)
    replace HA:=zIo (HA.out.gr hb)
    replace HG:=zIo (HG.out.step hb)
    clear hb
    refine hK.out _ _ HA.out (fun _=>?_)
    (try simp only [Act.put,qset])
    clear hK K
    try clear ww1
    refine ⟨?_, ?_⟩
    ·refine runT rfl (fun K hK=>?_)
     go_simp
     go_at_call 91
     refine (zAQ y _ y0 y1).mono ?_
     rintro r ww3 ⟨rfl,hb⟩
     (try go_wp2_with fail)
     replace Hw:=zIo (Hw.out.later hb.below)
     replace HA:=zIo (HA.out.gr hb)
     replace HG:=zIo (HG.out.step hb)
     clear hb
     refine hK.out _ _ HA.out (fun _=>?_)
     (try simp only [Act.put,qset])
     clear hK K
     try clear ww2
     refine runT rfl (fun K hK=>?_)
     go_simp
     have hb:=(Gr.refl ww3).new (.cells #[i64 0,i64 0,i64 0,i64 0,i64 0] 140)
     have Hv : Hid (IsObj (ww3.alloc (.cells #[i64 0,i64 0,i64 0,i64 0,i64 0] 140)) ww3.heap.size [i64 0,i64 0,i64 0,i64 0,i64 0]):=IsObj.made ww3 [i64 0,i64 0,i64 0,i64 0,i64 0] 140
     have Hne : Hid (ww3.heap.size ≠ bw):=by have:=Hw.out.lt; show _ ≠ _; omega
     replace Hw:=zIo (Hw.out.later hb.below)
     have Hsv : Hid (W.heap.size ≤ ww3.heap.size):=HG.out.below.size
     replace HA:=zIo (HA.out.gr hb)
     replace HG:=zIo (HG.out.step hb)
     clear hb
     generalize ww3.alloc (.cells #[i64 0,i64 0,i64 0,i64 0,i64 0] 140) = ww4 at HA HG Hv Hw ⊢
     generalize ww3.heap.size = bv at Hv Hsv Hne ⊢
     refine hK.out _ _ HA.out (fun _=>?_)
     (try simp only [Act.put,qset])
     clear hK K
     try clear ww3
     refine runT rfl (fun K hK=>?_)
     have q0:=Hv.out.at' 0 _ rfl
     have q1:=Hv.out.at' 1 _ rfl
     have q2:=Hv.out.at' 2 _ rfl
     have q3:=Hv.out.at' 3 _ rfl
     have q4:=Hv.out.at' 4 _ rfl
     have f0:=Hv.out.fz 0
     have f1:=Hv.out.fz 1
     have f2:=Hv.out.fz 2
     have f3:=Hv.out.fz 3
     have f4:=Hv.out.fz 4
     go_simp
     clear q0 q1 q2 q3 q4 f0 f1 f2 f3 f4
     obtain ⟨g1,g2,g3⟩:=set5 HG.out Hv.out Hsv.out (i64 (x % 4)) (i64 (x / 4 % 2)) (i64 (x / 8 % 8192)) (i64 (x / 65536 % 16777216)) (i64 (x / 1099511627776))
     replace HG:=zIo g1
     replace Hv:=zIo g2
     replace Hw:=zIo (g3 _ _ Hw.out Hne.out)
     clear g1 g2 g3
     generalize ((((ww4.setCell ⟨bv,0,none⟩ (i64 (x % 4))).setCell ⟨bv,1,none⟩ (i64 (x / 4 % 2))).setCell ⟨bv,2,none⟩ (i64 (x / 8 % 8192))).setCell ⟨bv,3,none⟩ (i64 (x / 65536 % 16777216))).setCell ⟨bv,4,none⟩ (i64 (x / 1099511627776)) = wy at HG Hv Hw ⊢
     replace HA:=zIo (HA0.out.gr HG.out)
     refine hK.out _ _ HA.out (fun _=>?_)
     (try simp only [Act.put,qset])
     clear hK K
     refine runT rfl (fun K hK=>?_)
     have q0:=Hw.out.at' 0 _ rfl
     have q1:=Hw.out.at' 1 _ rfl
     have q2:=Hw.out.at' 2 _ rfl
     have q3:=Hw.out.at' 3 _ rfl
     have q4:=Hw.out.at' 4 _ rfl
     have f0:=Hw.out.fz 0
     have f1:=Hw.out.fz 1
     have f2:=Hw.out.fz 2
     have f3:=Hw.out.fz 3
     have f4:=Hw.out.fz 4
     go_simp
     clear q0 q1 q2 q3 q4 f0 f1 f2 f3 f4
     obtain ⟨g1,g2,g3⟩:=set5 HG.out Hw.out Hsw.out (i64 (y % 4)) (i64 (y / 4 % 2)) (i64 (y / 8 % 8192)) (i64 (y / 65536 % 16777216)) (i64 (y / 1099511627776))
     replace HG:=zIo g1
     replace Hw:=zIo g2
     replace Hv:=zIo (g3 _ _ Hv.out (fun e=>Hne.out e.symm))
     clear g1 g2 g3
     generalize ((((wy.setCell ⟨bw,0,none⟩ (i64 (y % 4))).setCell ⟨bw,1,none⟩ (i64 (y / 4 % 2))).setCell ⟨bw,2,none⟩ (i64 (y / 8 % 8192))).setCell ⟨bw,3,none⟩ (i64 (y / 65536 % 16777216))).setCell ⟨bw,4,none⟩ (i64 (y / 1099511627776)) = wz at HG Hv Hw ⊢
     replace HA:=zIo (HA0.out.gr HG.out)
     refine hK.out _ _ HA.out (fun _=>?_)
     (try simp only [Act.put,qset])
     clear hK K
     refine zAO ?_
     go_wp2_with fail
     go_meet
     exact ⟨bv,bw,rfl,rfl,Hv,Hw,HG⟩
    ·refine runT rfl (fun K hK=>?_)
     go_simp
     have hb:=(Gr.refl ww2).new (.cells #[i64 0,i64 0,i64 0,i64 0,i64 0] 140)
     have Hv : Hid (IsObj (ww2.alloc (.cells #[i64 0,i64 0,i64 0,i64 0,i64 0] 140)) ww2.heap.size [i64 0,i64 0,i64 0,i64 0,i64 0]):=IsObj.made ww2 [i64 0,i64 0,i64 0,i64 0,i64 0] 140
     have Hne : Hid (ww2.heap.size ≠ bw):=by have:=Hw.out.lt; show _ ≠ _; omega
     replace Hw:=zIo (Hw.out.later hb.below)
     have Hsv : Hid (W.heap.size ≤ ww2.heap.size):=HG.out.below.size
     replace HA:=zIo (HA.out.gr hb)
     replace HG:=zIo (HG.out.step hb)
     clear hb
     generalize ww2.alloc (.cells #[i64 0,i64 0,i64 0,i64 0,i64 0] 140) = ww3 at HA HG Hv Hw ⊢
     generalize ww2.heap.size = bv at Hv Hsv Hne ⊢
     refine hK.out _ _ HA.out (fun _=>?_)
     (try simp only [Act.put,qset])
     clear hK K
     try clear ww2
     refine runT rfl (fun K hK=>?_)
     go_simp
     go_at_call 91
     refine (zAQ y _ y0 y1).mono ?_
     rintro r ww4 ⟨rfl,hb⟩
     (try go_wp2_with fail)
     replace Hv:=zIo (Hv.out.later hb.below)
     replace Hw:=zIo (Hw.out.later hb.below)
     replace HA:=zIo (HA.out.gr hb)
     replace HG:=zIo (HG.out.step hb)
     clear hb
     refine hK.out _ _ HA.out (fun _=>?_)
     (try simp only [Act.put,qset])
     clear hK K
     try clear ww3
     refine runT rfl (fun K hK=>?_)
     have q0:=Hv.out.at' 0 _ rfl
     have q1:=Hv.out.at' 1 _ rfl
     have q2:=Hv.out.at' 2 _ rfl
     have q3:=Hv.out.at' 3 _ rfl
     have q4:=Hv.out.at' 4 _ rfl
     have f0:=Hv.out.fz 0
     have f1:=Hv.out.fz 1
     have f2:=Hv.out.fz 2
     have f3:=Hv.out.fz 3
     have f4:=Hv.out.fz 4
     go_simp
     clear q0 q1 q2 q3 q4 f0 f1 f2 f3 f4
     obtain ⟨g1,g2,g3⟩:=set5 HG.out Hv.out Hsv.out (i64 (x % 4)) (i64 (x / 4 % 2)) (i64 (x / 8 % 8192)) (i64 (x / 65536 % 16777216)) (i64 (x / 1099511627776))
     replace HG:=zIo g1
     replace Hv:=zIo g2
     replace Hw:=zIo (g3 _ _ Hw.out Hne.out)
     clear g1 g2 g3
     generalize ((((ww4.setCell ⟨bv,0,none⟩ (i64 (x % 4))).setCell ⟨bv,1,none⟩ (i64 (x / 4 % 2))).setCell ⟨bv,2,none⟩ (i64 (x / 8 % 8192))).setCell ⟨bv,3,none⟩ (i64 (x / 65536 % 16777216))).setCell ⟨bv,4,none⟩ (i64 (x / 1099511627776)) = wy at HG Hv Hw ⊢
     replace HA:=zIo (HA0.out.gr HG.out)
     refine hK.out _ _ HA.out (fun _=>?_)
     (try simp only [Act.put,qset])
     clear hK K
     refine runT rfl (fun K hK=>?_)
     have q0:=Hw.out.at' 0 _ rfl
     have q1:=Hw.out.at' 1 _ rfl
     have q2:=Hw.out.at' 2 _ rfl
     have q3:=Hw.out.at' 3 _ rfl
     have q4:=Hw.out.at' 4 _ rfl
     have f0:=Hw.out.fz 0
     have f1:=Hw.out.fz 1
     have f2:=Hw.out.fz 2
     have f3:=Hw.out.fz 3
     have f4:=Hw.out.fz 4
     go_simp
     clear q0 q1 q2 q3 q4 f0 f1 f2 f3 f4
     obtain ⟨g1,g2,g3⟩:=set5 HG.out Hw.out Hsw.out (i64 (y % 4)) (i64 (y / 4 % 2)) (i64 (y / 8 % 8192)) (i64 (y / 65536 % 16777216)) (i64 (y / 1099511627776))
     replace HG:=zIo g1
     replace Hw:=zIo g2
     replace Hv:=zIo (g3 _ _ Hv.out (fun e=>Hne.out e.symm))
     clear g1 g2 g3
     generalize ((((wy.setCell ⟨bw,0,none⟩ (i64 (y % 4))).setCell ⟨bw,1,none⟩ (i64 (y / 4 % 2))).setCell ⟨bw,2,none⟩ (i64 (y / 8 % 8192))).setCell ⟨bw,3,none⟩ (i64 (y / 65536 % 16777216))).setCell ⟨bw,4,none⟩ (i64 (y / 1099511627776)) = wz at HG Hv Hw ⊢
     replace HA:=zIo (HA0.out.gr HG.out)
     refine hK.out _ _ HA.out (fun _=>?_)
     (try simp only [Act.put,qset])
     clear hK K
     refine zAO ?_
     go_wp2_with fail
     go_meet
     exact ⟨bv,bw,rfl,rfl,Hv,Hw,HG⟩
   ·refine runT rfl (fun K hK=>?_)
    go_simp
    have hb:=(Gr.refl ww1).new (.cells #[i64 0,i64 0,i64 0,i64 0,i64 0] 140)
    have Hv : Hid (IsObj (ww1.alloc (.cells #[i64 0,i64 0,i64 0,i64 0,i64 0] 140)) ww1.heap.size [i64 0,i64 0,i64 0,i64 0,i64 0]):=IsObj.made ww1 [i64 0,i64 0,i64 0,i64 0,i64 0] 140
    have Hne : Hid (ww1.heap.size ≠ bw):=by have:=Hw.out.lt; show _ ≠ _; omega
    replace Hw:=zIo (Hw.out.later hb.below)
    have Hsv : Hid (W.heap.size ≤ ww1.heap.size):=HG.out.below.size
    replace HA:=zIo (HA.out.gr hb)
    replace HG:=zIo (HG.out.step hb)
    clear hb
    generalize ww1.alloc (.cells #[i64 0,i64 0,i64 0,i64 0,i64 0] 140) = ww2 at HA HG Hv Hw ⊢
    generalize ww1.heap.size = bv at Hv Hsv Hne ⊢
    refine hK.out _ _ HA.out (fun _=>?_)
    (try simp only [Act.put,qset])
    clear hK K
    try clear ww1
    refine runT rfl (fun K hK=>?_)
    go_simp
    go_at_call 91
    refine (zAQ x _ x0 x1).mono ?_
    rintro r ww3 ⟨rfl,hb⟩
    (try go_wp2_with fail)
    replace Hv:=zIo (Hv.out.later hb.below)
    replace Hw:=zIo (Hw.out.later hb.below)
    replace HA:=zIo (HA.out.gr hb)
    replace HG:=zIo (HG.out.step hb)
    clear hb
    refine hK.out _ _ HA.out (fun _=>?_)
    (try simp only [Act.put,qset])
    clear hK K
    try clear ww2
    refine runT rfl (fun K hK=>?_)
    go_simp
    go_at_call 91
    refine (zAQ y _ y0 y1).mono ?_
    rintro r ww4 ⟨rfl,hb⟩
    (try go_wp2_with fail)
    replace Hv:=zIo (Hv.out.later hb.below)
    replace Hw:=zIo (Hw.out.later hb.below)
    replace HA:=zIo (HA.out.gr hb)
    replace HG:=zIo (HG.out.step hb)
    clear hb
    refine hK.out _ _ HA.out (fun _=>?_)
    (try simp only [Act.put,qset])
    clear hK K
    try clear ww3
    refine runT rfl (fun K hK=>?_)
    have q0:=Hv.out.at' 0 _ rfl
    have q1:=Hv.out.at' 1 _ rfl
    have q2:=Hv.out.at' 2 _ rfl
    have q3:=Hv.out.at' 3 _ rfl
    have q4:=Hv.out.at' 4 _ rfl
    have f0:=Hv.out.fz 0
    have f1:=Hv.out.fz 1
    have f2:=Hv.out.fz 2
    have f3:=Hv.out.fz 3
    have f4:=Hv.out.fz 4
    go_simp
    clear q0 q1 q2 q3 q4 f0 f1 f2 f3 f4
    obtain ⟨g1,g2,g3⟩:=set5 HG.out Hv.out Hsv.out (i64 (x % 4)) (i64 (x / 4 % 2)) (i64 (x / 8 % 8192)) (i64 (x / 65536 % 16777216)) (i64 (x / 1099511627776))
    replace HG:=zIo g1
    replace Hv:=zIo g2
    replace Hw:=zIo (g3 _ _ Hw.out Hne.out)
    clear g1 g2 g3
    generalize ((((ww4.setCell ⟨bv,0,none⟩ (i64 (x % 4))).setCell ⟨bv,1,none⟩ (i64 (x / 4 % 2))).setCell ⟨bv,2,none⟩ (i64 (x / 8 % 8192))).setCell ⟨bv,3,none⟩ (i64 (x / 65536 % 16777216))).setCell ⟨bv,4,none⟩ (i64 (x / 1099511627776)) = wy at HG Hv Hw ⊢
    replace HA:=zIo (HA0.out.gr HG.out)
    refine hK.out _ _ HA.out (fun _=>?_)
    (try simp only [Act.put,qset])
    clear hK K
    refine runT rfl (fun K hK=>?_)
    have q0:=Hw.out.at' 0 _ rfl
    have q1:=Hw.out.at' 1 _ rfl
    have q2:=Hw.out.at' 2 _ rfl
    have q3:=Hw.out.at' 3 _ rfl
    have q4:=Hw.out.at' 4 _ rfl
    have f0:=Hw.out.fz 0
    have f1:=Hw.out.fz 1
    have f2:=Hw.out.fz 2
    have f3:=Hw.out.fz 3
    have f4:=Hw.out.fz 4
    go_simp
    clear q0 q1 q2 q3 q4 f0 f1 f2 f3 f4
    obtain ⟨g1,g2,g3⟩:=set5 HG.out Hw.out Hsw.out (i64 (y % 4)) (i64 (y / 4 % 2)) (i64 (y / 8 % 8192)) (i64 (y / 65536 % 16777216)) (i64 (y / 1099511627776))
    replace HG:=zIo g1
    replace Hw:=zIo g2
    replace Hv:=zIo (g3 _ _ Hv.out (fun e=>Hne.out e.symm))
    clear g1 g2 g3
    generalize ((((wy.setCell ⟨bw,0,none⟩ (i64 (y % 4))).setCell ⟨bw,1,none⟩ (i64 (y / 4 % 2))).setCell ⟨bw,2,none⟩ (i64 (y / 8 % 8192))).setCell ⟨bw,3,none⟩ (i64 (y / 65536 % 16777216))).setCell ⟨bw,4,none⟩ (i64 (y / 1099511627776)) = wz at HG Hv Hw ⊢
    replace HA:=zIo (HA0.out.gr HG.out)
    refine hK.out _ _ HA.out (fun _=>?_)
    (try simp only [Act.put,qset])
    clear hK K
    refine zAO ?_
    go_wp2_with fail
    go_meet
    exact ⟨bv,bw,rfl,rfl,Hv,Hw,HG⟩
 case rest =>
  obtain ⟨bv,bw,rfl,rfl,Hv,Hw,HG⟩:=hcut
  clear a0 a1 a2
  have v1:=Hv.out.at' 1 _ rfl
  have v3:=Hv.out.at' 3 _ rfl
  have v4:=Hv.out.at' 4 _ rfl
  have w1:=Hw.out.at' 1 _ rfl
  have w3:=Hw.out.at' 3 _ rfl
  have w4:=Hw.out.at' 4 _ rfl
  obtain ⟨L,hL⟩ : ∃ L : Int,laterI x y i j = L:=⟨_,rfl⟩
  have hbd:=zF4 x y i j
  rw [hL] at hbd
  have HL:=zIo hL
  clear hL
  go_wp2_with fail
  refine (zFj _ _ _ _ _).mono ?_
  rintro r wr ⟨rfl,hb1⟩
  replace v1:=hb1.cell v1
  replace w1:=hb1.cell w1
  clear v3 v4 w3 w4
  replace HG:=zIo (HG.out.step hb1)
  clear hb1 Hv Hw
  go_wp2_with fail
  refine (zCq _ _ _).mono ?_
  rintro r wr2 ⟨rfl,rfl⟩
  go_wp2_with fail
  refine (zDQ (cmpS (x / 65536 % 16777216) (x / 1099511627776) (y / 65536 % 16777216) (y / 1099511627776)) (cmpI i j) _ _ (by go_simp) (by go_simp)).mono ?_
  rintro r wr2 ⟨rfl,rfl⟩
  replace v1:=zEs v1 (.cells #[i64 (cmpS (x / 65536 % 16777216) (x / 1099511627776) (y / 65536 % 16777216) (y / 1099511627776)),i64 (cmpI i j)] 3)
  replace w1:=zEs w1 (.cells #[i64 (cmpS (x / 65536 % 16777216) (x / 1099511627776) (y / 65536 % 16777216) (y / 1099511627776)),i64 (cmpI i j)] 3)
  replace HG:=zIo (HG.out.new (.cells #[i64 (cmpS (x / 65536 % 16777216) (x / 1099511627776) (y / 65536 % 16777216) (y / 1099511627776)),i64 (cmpI i j)] 3))
  generalize wr.alloc (.cells #[i64 (cmpS (x / 65536 % 16777216) (x / 1099511627776) (y / 65536 % 16777216) (y / 1099511627776)),i64 (cmpI i j)] 3) = wr3 at v1 w1 HG ⊢
  rw [show orI (cmpS (x / 65536 % 16777216) (x / 1099511627776) (y / 65536 % 16777216) (y / 1099511627776)) (cmpI i j) = L from HL.out]
  by_cases he : x / 4 % 2 = 0
  ·have he' : (x / 4 % 2 == 0) = true:=by simp [he]
   have HE:=zIo he
   clear he
   go_wp2_with fail
   refine (zCs _ _ _).mono ?_
   rintro r wr2 ⟨rfl,rfl⟩
   go_wp2_with fail
   refine (zDQ (cmpI (x / 4 % 2) (y / 4 % 2)) (-L) _ _ (by go_simp) (by go_simp)).mono ?_
   rintro r wr2 ⟨rfl,rfl⟩
   go_wp2_with fail
   go_ret
   exact ⟨by unfold rightI; rw [if_pos HE.out,HL.out]; rfl,HG.out.new _⟩
  ·have he' : (x / 4 % 2 == 0) = false:=by simp [he]
   have HE:=zIo he
   clear he
   go_wp2_with fail
   refine (zCs _ _ _).mono ?_
   rintro r wr2 ⟨rfl,rfl⟩
   go_wp2_with fail
   refine (zDQ (cmpI (x / 4 % 2) (y / 4 % 2)) L _ _ (by go_simp) (by go_simp)).mono ?_
   rintro r wr2 ⟨rfl,rfl⟩
   go_wp2_with fail
   go_ret
   exact ⟨by unfold rightI; rw [if_neg HE.out,HL.out]; rfl,HG.out.new _⟩
end
section
def xkey (x : Int) (i : Nat) : Int:=pkey (x / 4 % 2) (x / 65536 % 16777216) (x / 1099511627776) i
theorem zHp (a b c d : Int) : cmpS c d a b = -cmpS a b c d:=by
 rcases zBT a b c d with ⟨h,h2⟩ | ⟨h,rfl,rfl⟩ | ⟨h,h2⟩
 ·rcases zBT c d a b with ⟨k,k2⟩ | ⟨k,k2⟩ | ⟨k,k2⟩ <;> omega
 ·rw [h]
  rfl
 ·rcases zBT c d a b with ⟨k,k2⟩ | ⟨k,k2⟩ | ⟨k,k2⟩ <;> omega
theorem zGl (c : Int) (i j : Nat) : 0 < orI c (cmpI i j) ↔ (0 < c ∨ (c = 0 ∧ j < i)):=by
 unfold orI cmpI
 repeat' split
 all_goals omega
theorem zGT (c : Int) (i j : Nat) : orI c (cmpI i j) < 0 ↔ (0 < -c ∨ (-c = 0 ∧ i < j)):=by
 unfold orI cmpI
 repeat' split
 all_goals omega
section
variable {x y : Int} {i j : Nat}
theorem zE2 (x0 : 0 ≤ x) (x1 : x ≤ 18446744073709551615) (y0 : 0 ≤ y) (y1 : y ≤ 18446744073709551615) (i1 : i < 1048576) (j1 : j < 1048576) :
  0 < laterI x y i j ↔ lkey (y / 65536 % 16777216) (y / 1099511627776) j < lkey (x / 65536 % 16777216) (x / 1099511627776) i:=by
 unfold laterI
 rw [zGl,zDm (by omega) (by omega) (by omega) (by omega) i1 j1]
theorem zFg (x0 : 0 ≤ x) (x1 : x ≤ 18446744073709551615) (y0 : 0 ≤ y) (y1 : y ≤ 18446744073709551615) (i1 : i < 1048576) (j1 : j < 1048576) :
  laterI x y i j < 0 ↔ lkey (x / 65536 % 16777216) (x / 1099511627776) i < lkey (y / 65536 % 16777216) (y / 1099511627776) j:=by
 unfold laterI
 rw [zGT, ← zHp,zDm (by omega) (by omega) (by omega) (by omega) j1 i1]
theorem zFz (x0 : 0 ≤ x) (x1 : x ≤ 18446744073709551615) (y0 : 0 ≤ y) (y1 : y ≤ 18446744073709551615) (i1 : i < 1048576) (j1 : j < 1048576) :
  (rightI x y i j < 0 ↔ xkey x i < xkey y j) ∧ (0 < rightI x y i j ↔ xkey y j < xkey x i):=by
 have p:=zE2 x0 x1 y0 y1 i1 j1
 have q:=zFg x0 x1 y0 y1 i1 j1
 have n1 : 0 ≤ lkey (x / 65536 % 16777216) (x / 1099511627776) i:=zGw (by omega) (by omega)
 have n2 : 0 ≤ lkey (y / 65536 % 16777216) (y / 1099511627776) j:=zGw (by omega) (by omega)
 unfold rightI xkey pkey
 generalize laterI x y i j = L at p q ⊢
 generalize lkey (x / 65536 % 16777216) (x / 1099511627776) i = u at p q n1 ⊢
 generalize lkey (y / 65536 % 16777216) (y / 1099511627776) j = v at p q n2 ⊢
 have e0 : x / 4 % 2 = 0 ∨ x / 4 % 2 = 1:=by omega
 have f0 : y / 4 % 2 = 0 ∨ y / 4 % 2 = 1:=by omega
 generalize x / 4 % 2 = e at e0 ⊢
 generalize y / 4 % 2 = f at f0 ⊢
 clear x0 x1 y0 y1 i1 j1
 rcases e0 with rfl | rfl <;> rcases f0 with rfl | rfl
 ·simp only [cmpI,orI,Int.lt_irrefl,if_false,if_true]
  omega
 ·simp [cmpI,orI]
  omega
 ·simp [cmpI,orI]
  omega
 ·simp only [cmpI,orI,Int.lt_irrefl,if_false,if_true,show ¬ ((1 : Int) = 0) by decide]
  omega
end
def wkey (ws : List Int) (i : Nat) : Int:=xkey (ws.getD i 0) i
def cfI (ws : List Int) (n i j : Nat) : Int:=rightI (ws.getD (i % n) 0) (ws.getD (j % n) 0) (i % n) (j % n)
theorem zIQ {ws : List Int} {n : Nat} (hf : ∀ i,0 ≤ ws.getD i 0 ∧ ws.getD i 0 ≤ 18446744073709551615) (hn : n ≤ 1000000) (h0 : 0 < n) (i j : Nat) :
  (cfI ws n i j < 0 ↔ wkey ws (i % n) < wkey ws (j % n)) ∧ (0 < cfI ws n i j ↔ wkey ws (j % n) < wkey ws (i % n)) :=
 zFz (hf _).1 (hf _).2 (hf _).1 (hf _).2 (by have:=Nat.mod_lt i h0; omega) (by have:=Nat.mod_lt j h0; omega)
end
section
structure IsWs (w : World) (a : Option Addr) (ws : List Int) : Prop where
 has : 0 < ws.length → ∃ b off,a = some ⟨b,off,none⟩ ∧ ∀ i,i < ws.length → w.cell? ⟨b,off + i,none⟩ = some (u64 (ws.getD i 0))
 fit : ∀ i,0 ≤ ws.getD i 0 ∧ ws.getD i 0 ≤ 18446744073709551615
theorem IsWs.later {w w' : World} {a : Option Addr} {ws : List Int} (h : IsWs w a ws) (k : Below w.heap.size w w') : IsWs w' a ws :=
 ⟨fun h0=>by obtain ⟨b,off,h1,h2⟩:=h.has h0; exact ⟨b,off,h1,fun i hi=>(zAM k _ (by rw [h2 i hi]; rfl)).trans (h2 i hi)⟩,h.fit⟩
def live (ws : List Int) (i : Nat) : Prop:=ws.getD i 0 % 4 = 1
instance (ws : List Int) (i : Nat) : Decidable (live ws i):=inferInstanceAs (Decidable (_ = _))
def upto (ws : List Int) (e : Nat) : List Nat:=(List.range e).filter (fun i=>decide (live ws i))
theorem zHu {ws : List Int} {e : Nat} (h : live ws e) : upto ws (e + 1) = upto ws e ++ [e]:=by
 unfold upto
 rw [List.range_succ,List.filter_append,List.filter_cons_of_pos (by simpa using h)]
 rfl
theorem zIS {ws : List Int} {e : Nat} (h : ¬ live ws e) : upto ws (e + 1) = upto ws e:=by
 unfold upto
 rw [List.range_succ,List.filter_append,List.filter_cons_of_neg (by simpa using h)]
 simp
theorem zBh (ws : List Int) (e : Nat) : (upto ws e).length ≤ e:=by
 have:=List.length_filter_le (fun i=>decide (live ws i)) (List.range e)
 rwa [List.length_range] at this
theorem zBW {ws : List Int} {e i : Nat} : i ∈ upto ws e ↔ i < e ∧ live ws i:=by simp [upto,List.mem_filter]
theorem zFQ (ws : List Int) (e : Nat) : (upto ws e).Nodup:=List.nodup_range.filter _
theorem zHh (W : World) : Hold W W [tRow W.heap.size 3 1 (.slice none 0 0) 0 []] :=
 Hold.more (l:=[]) (Hold.nil (Below.refl _ _)) (Below.refl _ _) (zA5 _ _ _ _ _ _) ⟨rfl,.inl ⟨rfl,rfl⟩⟩ (fun q hq=>by cases hq)
theorem zDE (W : World) (a : Option Addr) (cap : Nat) (ws : List Int) (hW : IsWs W a ws) (hn : ws.length ≤ 1000000) :
  Calls Tryz.prog 103 #[.slice a ws.length cap] W fun r w' => ∃ v,r = .returned v ∧ w'.ownsRow W.heap.size 3 1 v (upto ws ws.length).length ((upto ws ws.length).map (fun i : Nat=>i64 (i : Int))) ∧ Below W.heap.size W w':=by
 have H0:=zIo (zHh W)
 have HW:=zIo hW
 clear hW
 obtain ⟨len,hlen⟩ : ∃ len : Nat,ws.length = len:=⟨_,rfl⟩
 have Hlen:=zIo hlen
 rw [hlen] at hn ⊢
 clear hlen
 go_enter Tryz.func103,Tryz.ntmps103
 go_wp2_with fail
 obtain ⟨wo,rfl⟩ : ∃ wo : World,wo = W:=⟨_,rfl⟩
 go_loopw [3,8] (fun vb j wr => ∃ (e : Nat),e ≤ len ∧ j = .int .i64 e ∧ Hid (Hold wo wr [tRow wo.heap.size 3 1 vb (upto ws e).length ((upto ws e).map (fun i : Nat=>i64 (i : Int)))])) (fun _ j _=>len - (intOf j).toNat)
 case atStart=>exact ⟨0,by omega,rfl,H0⟩
 case round =>
  clear H0
  obtain ⟨e,he,rfl,HH⟩:=hrel
  rcases Nat.lt_or_ge e len with heN | heN
  ·have heN' : (e : Int) < (len : Int):=by omega
   obtain ⟨b,off,rfl,hc⟩:=HW.out.has (by have:=Hlen.out; omega)
   have hx:=(HH.out.below.cell (p:=⟨b,off + e,none⟩) (World.block_lt_of_cell? _ _ (hc e (by have:=Hlen.out; omega)))).trans (hc e (by have:=Hlen.out; omega))
   have hf:=HW.out.fit e
   have hul:=zBh ws e
   obtain ⟨x,hxe⟩ : ∃ x : Int,ws.getD e 0 = x:=⟨_,rfl⟩
   rw [hxe] at hx hf
   obtain ⟨x0,x1⟩:=hf
   have HX:=zIo hxe
   clear hxe hc
   go_wp2_with fail
   refine (zAn x _ x0 x1).mono ?_
   rintro r w5 ⟨rfl,hb5⟩
   have HH5:=zIo (HH.out.later hb5)
   clear hb5 HH hx
   have HRW : Hid (World.ownsRow _ _ _ _ _ _ _):=Hold.has HH5.out 0 _ rfl
   obtain ⟨A,cp,rfl⟩:=zAK HRW.out
   clear HRW
   go_wp2_with fail
   change (?kk : Act → World → Prop) (Act.put _ _ (i64 (x % 4))) _
   by_cases h1 : x % 4 = 1
   ·have h1' : (x % 4 == 1) = true:=by simp [h1]
    have HL : Hid (live ws e):=by show ws.getD e 0 % 4 = 1; rw [HX.out]; exact h1
    clear h1
    go_wp2_with (at_builtin; refine zAI rfl _ _ 40 rfl wo.heap.size 3 _ 1 8 zBu (.slice A (upto ws e).length cp) (upto ws e).length ((upto ws e).map (fun i : Nat=>i64 (i : Int))) rfl (Hold.has (Hold.later HH5.out (zAA (Below.refl _ _) (.cells #[.int .i64 e] 3))) 0 _ rfl) (some ⟨_,0,none⟩) 1 1 [.int .i64 e] rfl (zBC w5 [.int .i64 e] 3 1 1 rfl (zDM _ _)) (by unfold maxLen; omega) (by omega) ((Hold.later HH5.out (zAA (Below.refl _ _) _)).size) ?_; intro vb' w8 hG; have HH8:=zIo ((Hold.later HH5.out (zAA (Below.refl _ _) (.cells #[.int .i64 e] 3))).append 0 rfl rfl hG); clear hG)
    go_roundw
    case rel=>exact ⟨e + 1,by omega,by go_num,by rw [zHu HL.out,List.length_append,List.map_append]; exact HH8⟩
    case measure=>first | omega | (simp [intOf]; done) | (simp [intOf]; omega)
   ·have h1' : (x % 4 == 1) = false:=by simp [h1]
    have HL : Hid (¬ live ws e):=by show ¬ (ws.getD e 0 % 4 = 1); rw [HX.out]; exact h1
    clear h1
    go_wp2_with fail
    go_roundw
    case rel=>exact ⟨e + 1,by omega,by go_num,by rw [zIS HL.out]; exact HH5⟩
    case measure=>first | omega | (simp [intOf]; done) | (simp [intOf]; omega)
  ·have heN' : ¬ (e : Int) < (len : Int):=by omega
   obtain rfl : e = len:=by omega
   have HRW : Hid (World.ownsRow _ _ _ _ _ _ _):=Hold.has HH.out 0 _ rfl
   obtain ⟨A,cp,rfl⟩:=zAK HRW.out
   go_wp2_with fail
   go_ret
   exact ⟨_,rfl,HRW.out,HH.out.below⟩
end
section
open Go.RowKit Go.Shelf Go.Lib Go.Sort
structure IsOrder (ws : List Int) (S : List Nat) : Prop where
 rise : S.Pairwise (fun i j=>wkey ws i < wkey ws j)
 mem : ∀ i,i ∈ S ↔ i < ws.length ∧ live ws i
def IsEnd (ws : List Int) (e : Int) (z : Int) : Prop :=
 (z = -1 ∧ ∀ i,i < ws.length → ¬ live ws i) ∨ ∃ i : Nat,z = (i : Int) ∧ i < ws.length ∧ live ws i ∧ ∀ j,j < ws.length → live ws j → if e = 0 then wkey ws i ≤ wkey ws j else wkey ws j ≤ wkey ws i
def encI (n : Nat) (i : Nat) : Value:=i64 ((i % n : Nat) : Int)
theorem zC0 (W : World) (v : Value) (hv : ∃ a n c,v = .slice a n c) : Calls Tryz.prog 105 #[v] W fun r w' => ∃ B,r = .returned (.func (.func 110) #[] #[.pointer (some ⟨B,0,none⟩)]) ∧ W.heap.size ≤ B ∧ w'.cell? ⟨B,0,none⟩ = some v ∧ Below W.heap.size W w':=by
 obtain ⟨a,n,c,rfl⟩:=hv
 go_enter Tryz.func105,Tryz.ntmps105
 go_wp2
 go_ret
 exact ⟨_,rfl,Nat.le_refl _,by go_simp,zAA (Below.refl _ _) _⟩
theorem zCr {W w : World} {enc : Nat → Value} {blk off m : Nat} {dk : Array Nat} {os : Array Obj} (h : Below W.heap.size W w) (hb : W.heap.size ≤ blk) : Below W.heap.size W (sortWorld enc w blk off m dk os):=by
 refine ⟨h.os,h.tape,h.output, ?_,fun k hk=>?_⟩
 ·unfold sortWorld
  rw [size_grow,size_putRow]
  exact Nat.le_trans h.size (Nat.le_add_right _ _)
 ·have hk2 : k < w.heap.size:=Nat.lt_of_lt_of_le hk h.size
  unfold sortWorld
  rw [heap_grow_old _ _ (by rw [size_putRow]; exact hk2)]
  unfold putRow mapBlock
  show ((Sort.ahead w m).heap.modify blk _)[k]? = _
  rw [Array.getElem?_modify,if_neg (by omega)]
  exact h.block k hk
theorem zCS {w : World} {enc : Nat → Value} {blk off m : Nat} {dk : Array Nat} {os : Array Obj} {a : Addr} {x : Value} (h : w.cell? a = some x) (hb : a.block ≠ blk) : (sortWorld enc w blk off m dk os).cell? a = some x:=by
 have hlt:=World.block_lt_of_cell? w a h
 unfold sortWorld
 rw [cell?_grow _ _ _ (by rw [size_putRow]; exact hlt),cell?_putRow_other _ _ _ _ _ _ (.inl hb)]
 exact h
theorem zEd (w : World) (ws : List Int) (hf : ∀ i,0 ≤ ws.getD i 0 ∧ ws.getD i 0 ≤ 18446744073709551615) (B b off n cap blk size : Nat) (h0 : 0 < n) (hn : n ≤ 1000000) (hB : w.cell? ⟨B,0,none⟩ = some (.slice (some ⟨b,off,none⟩) n cap)) (hc : ∀ i,i < n → w.cell? ⟨b,off + i,none⟩ = some (u64 (ws.getD i 0)))
  (n1 : B ≠ blk) (n2 : b ≠ blk) : CmpLays1 Tryz.prog 110 #[.pointer (some ⟨B,0,none⟩)] (encI n) (cfI ws n) blk 0 size w:=by
 intro m os dk _ i j
 have hi:=Nat.mod_lt i h0
 have hj:=Nat.mod_lt j h0
 refine (zDO _ B b off n cap (i % n) (j % n) (ws.getD (i % n) 0) (ws.getD (j % n) 0) hi hj hn ⟨zCS hB n1,zCS (hc _ hi) n2,zCS (hc _ hj) n2⟩ (hf _).1 (hf _).2 (hf _).1 (hf _).2).mono ?_
 rintro e w' ⟨rfl,hg⟩
 exact ⟨rfl,hg.grown⟩
theorem zDl {w : World} {base : Nat} {e : TypeId} {g k cap n : Nat} {S : List Nat} (h : w.ownsRow base e 1 (.slice (some ⟨g,0,none⟩) k cap) k (S.map (fun i : Nat=>i64 (i : Int)))) (hS : ∀ i ∈ S,i < n) : Holds (encI n) w g 0 S.toArray:=by
 have hl:=h.1
 rw [List.length_map,Nat.mul_one] at hl
 intro j hj
 rw [List.size_toArray] at hj
 refine ⟨?_,h.frozenAt _⟩
 rw [Nat.zero_add,h.cellAt j (by omega),List.getElem?_map,List.getElem?_eq_getElem hj]
 show some (i64 (S[j] : Int)) = some (encI n S.toArray[j]!)
 rw [getElem!_pos S.toArray j (by simpa using hj)]
 unfold encI
 rw [List.getElem_toArray,Nat.mod_eq_of_lt (hS _ (List.getElem_mem _))]
end
section
open Go.RowKit Go.Shelf Go.Lib Go.Sort
theorem zCo (f : Nat → Int) (better : Nat → Nat → Bool) (hb : ∀ x m,better x m = decide (f x < f m)) (d : Array Nat) : ∀ k, ∃ i,i ≤ k ∧ pickBy better d k = d[i]! ∧ ∀ j,j ≤ k → f d[i]! ≤ f d[j]!
  | 0 => ⟨0, Nat.le_refl _, rfl, fun j hj => by obtain rfl : j = 0 := by omega
                                                exact Int.le_refl _⟩
  | k + 1=>by
    obtain ⟨i,h1,h2,h3⟩:=zCo f better hb d k
    simp only [pickBy]
    rw [h2,hb]
    by_cases h : f d[k + 1]! < f d[i]!
    · rw [if_pos (by simpa using h)]
      refine ⟨k + 1,Nat.le_refl _,rfl,fun j hj=>?_⟩
      rcases Nat.lt_or_ge j (k + 1) with h4 | h4
      · have:=h3 j (by omega)
        omega
      · obtain rfl : j = k + 1:=by omega
        exact Int.le_refl _
    · rw [if_neg (by simpa using h)]
      refine ⟨i,by omega,rfl,fun j hj=>?_⟩
      rcases Nat.lt_or_ge j (k + 1) with h4 | h4
      · exact h3 j (by omega)
      · obtain rfl : j = k + 1:=by omega
        omega
theorem zCc {ws : List Int} (h0 : 0 < (upto ws ws.length).length) (f : Nat → Int) (better : Nat → Nat → Bool) (hb : ∀ x m,better x m = decide (f x < f m)) :
  ∃ i,pickBy better (upto ws ws.length).toArray ((upto ws ws.length).toArray.size - 1) = i ∧ i < ws.length ∧ live ws i ∧ ∀ j,j < ws.length → live ws j → f i ≤ f j:=by
 obtain ⟨i,h1,h2,h3⟩:=zCo f better hb (upto ws ws.length).toArray ((upto ws ws.length).toArray.size - 1)
 rw [List.size_toArray] at h1 h2 h3 ⊢
 have hi : i < (upto ws ws.length).length:=by omega
 have hv : (upto ws ws.length).toArray[i]! = (upto ws ws.length)[i]:=by rw [getElem!_pos _ i (by simpa using hi)]; rfl
 have hm : (upto ws ws.length)[i] ∈ upto ws ws.length:=List.getElem_mem _
 rw [zBW] at hm
 refine ⟨_,h2,by rw [hv]; exact hm.1,by rw [hv]; exact hm.2,fun j hj hl=>?_⟩
 obtain ⟨q,hq,rfl⟩:=List.getElem_of_mem (zBW.2 ⟨hj,hl⟩)
 have:=h3 q (by omega)
 rwa [getElem!_pos _ q (by simpa using hq)] at this
theorem at_any (W : World) (a : Option Addr) (cap : Nat) (ws : List Int) (e : Int) (he : e = 0 ∨ e = 1) (hW : IsWs W a ws) (hn : ws.length ≤ 1000000) :
  Calls Tryz.prog 88 #[.slice a ws.length cap,i64 e] W fun r w' => ∃ z : Int,r = .returned (i64 z) ∧ IsEnd ws e z ∧ Below W.heap.size W w':=by
 have HW:=zIo hW
 clear hW
 have eg : ∀ args w,(callFunc 110 args).run Tryz.prog w = .ok (.enter 110 args) w:=enters_of Tryz.func110 (by kernel_rfl) rfl
 have Heg:=zIo eg
 clear eg
 rcases Nat.eq_zero_or_pos (upto ws ws.length).length with h0 | h0
 ·have hnil:=List.eq_nil_of_length_eq_zero h0
  have HN:=zIo hnil
  clear hnil h0
  go_enter Tryz.func88,Tryz.ntmps88
  go_wp2_with fail
  refine (zDE _ a cap ws HW.out hn).mono ?_
  rintro r w1 ⟨v,rfl,hown,hb1⟩
  obtain ⟨A,cp,rfl⟩:=zAK hown
  have HB1:=zIo hb1
  clear hown hb1
  rw [HN.out]
  go_wp2_with fail
  go_ret
  exact ⟨-1,rfl,.inl ⟨rfl,fun i hi hl=>by have:=zBW.2 ⟨hi,hl⟩; rw [HN.out] at this; cases this⟩,HB1.out⟩
 ·have h0' : ((upto ws ws.length).length : Int) ≠ 0:=by omega
  have hlen : 0 < ws.length:=by have:=zBh ws ws.length; omega
  have hk:=fun i j=>zIQ HW.out.fit hn hlen i j
  obtain ⟨b,off,rfl,hc⟩:=HW.out.has hlen
  have HC:=zIo hc
  have H0:=zIo h0
  have Hlen:=zIo hlen
  have HK:=zIo hk
  have q0 : (((upto ws ws.length).length : Int) == 0) = false:=by simpa using h0'
  clear hc h0 hlen h0' hk
  rcases he with rfl | rfl
  ·have hP:=zCc H0.out (fun i=>wkey ws (i % ws.length)) (fun x m=>decide (cfI ws ws.length x m < 0)) (fun x m=>decide_eq_decide.2 (HK.out x m).1)
   have HP:=zIo hP
   clear hP
   go_enter Tryz.func88,Tryz.ntmps88
   go_wp2_with fail
   refine (zDE _ _ cap ws HW.out hn).mono ?_
   rintro r w1 ⟨v,rfl,hown,hb1⟩
   have HO:=zIo hown
   have HB1:=zIo hb1
   obtain ⟨A,cp,rfl⟩:=zAK hown
   clear hown hb1
   go_wp2_with fail
   refine (zC0 _ _ ⟨_,_,_,rfl⟩).mono ?_
   rintro r w2 ⟨B,rfl,hB,hBc,hb2⟩
   have HO2 : Hid (w2.ownsRow W.heap.size 3 1 (.slice A (upto ws ws.length).length cp) (upto ws ws.length).length ((upto ws ws.length).map (fun i : Nat=>i64 (i : Int)))) :=
    (zA5 W.heap.size 3 1 _ _ _).keep w1 w2 (fun _=>False) HO.out (Keep.of_below hb2) (fun _ _ h=>h)
   have HB2:=zIo (zAE HB1.out hb2)
   obtain ⟨g,cp',hv,hcp,hg⟩:=zBp HO2.out H0.out
   cases hv
   have hgW : W.heap.size ≤ g:=(HO2.out.lt g rfl).1
   have hgw1 : g < w1.heap.size:=(HO.out.lt g rfl).2
   have hS:=Any.slices_MinFunc minL (encI ws.length) (fun _=>rfl) (cfI ws ws.length) 110 #[.pointer (some ⟨B,0,none⟩)] g 0 cp (upto ws ws.length).toArray w2 Heg.out
    (zEd w2 ws HW.out.fit B b off ws.length cap g _ Hlen.out hn hBc (fun i hi=>(zAM HB2.out _ (by rw [HC.out i hi]; rfl)).trans (HC.out i hi)) (by omega) (by have:=World.block_lt_of_cell? W ⟨b,off + 0,none⟩ (HC.out 0 Hlen.out); show b ≠ g; have h2 : b < W.heap.size:=this; omega))
    (zDl HO2.out (fun i hi=>(zBW.1 hi).1)) hg (by rw [List.size_toArray]; have:=zBh ws ws.length; omega) (by rw [List.size_toArray]; exact H0.out)
   change Calls Tryz.prog 104 _ _ _ at hS
   obtain ⟨i,hi1,hi2,hi3,hi4⟩:=HP.out
   rw [hi1,List.size_toArray] at hS
   have HS:=zIo hS
   have HI : Hid (i % ws.length = i):=Nat.mod_eq_of_lt hi2
   have HE : Hid (IsEnd ws 0 (i : Int)):=.inr ⟨i,rfl,hi2,hi3,fun j hj hl=>by
    rw [if_pos rfl]
    have:=hi4 j hj hl
    rwa [HI.out,Nat.mod_eq_of_lt hj] at this⟩
   clear hS hB hBc hb2 hi1 hi2 hi3 hi4
   go_wp2_with fail
   refine HS.out.mono ?_
   rintro r w3 ⟨rfl,hsw⟩
   have HY : Hid (Below W.heap.size W w3):=by obtain ⟨nn,os,rfl⟩:=hsw; exact zCr HB2.out hgW
   clear hsw
   unfold encI
   rw [HI.out]
   go_wp2_with fail
   go_ret
   exact ⟨i,rfl,HE.out,HY.out⟩
  ·have hP:=zCc H0.out (fun i => -wkey ws (i % ws.length)) (fun x m=>decide (0 < cfI ws ws.length x m)) (fun x m=>decide_eq_decide.2 (by rw [(HK.out x m).2]; omega))
   have HP:=zIo hP
   clear hP
   go_enter Tryz.func88,Tryz.ntmps88
   go_wp2_with fail
   refine (zDE _ _ cap ws HW.out hn).mono ?_
   rintro r w1 ⟨v,rfl,hown,hb1⟩
   have HO:=zIo hown
   have HB1:=zIo hb1
   obtain ⟨A,cp,rfl⟩:=zAK hown
   clear hown hb1
   go_wp2_with fail
   refine (zC0 _ _ ⟨_,_,_,rfl⟩).mono ?_
   rintro r w2 ⟨B,rfl,hB,hBc,hb2⟩
   have HO2 : Hid (w2.ownsRow W.heap.size 3 1 (.slice A (upto ws ws.length).length cp) (upto ws ws.length).length ((upto ws ws.length).map (fun i : Nat=>i64 (i : Int)))) :=
    (zA5 W.heap.size 3 1 _ _ _).keep w1 w2 (fun _=>False) HO.out (Keep.of_below hb2) (fun _ _ h=>h)
   have HB2:=zIo (zAE HB1.out hb2)
   obtain ⟨g,cp',hv,hcp,hg⟩:=zBp HO2.out H0.out
   cases hv
   have hgW : W.heap.size ≤ g:=(HO2.out.lt g rfl).1
   have hgw1 : g < w1.heap.size:=(HO.out.lt g rfl).2
   have hS:=Any.slices_MaxFunc maxL (encI ws.length) (fun _=>rfl) (cfI ws ws.length) 110 #[.pointer (some ⟨B,0,none⟩)] g 0 cp (upto ws ws.length).toArray w2 Heg.out
    (zEd w2 ws HW.out.fit B b off ws.length cap g _ Hlen.out hn hBc (fun i hi=>(zAM HB2.out _ (by rw [HC.out i hi]; rfl)).trans (HC.out i hi)) (by omega) (by have:=World.block_lt_of_cell? W ⟨b,off + 0,none⟩ (HC.out 0 Hlen.out); show b ≠ g; have h2 : b < W.heap.size:=this; omega))
    (zDl HO2.out (fun i hi=>(zBW.1 hi).1)) hg (by rw [List.size_toArray]; have:=zBh ws ws.length; omega) (by rw [List.size_toArray]; exact H0.out)
   change Calls Tryz.prog 106 _ _ _ at hS
   obtain ⟨i,hi1,hi2,hi3,hi4⟩:=HP.out
   rw [hi1,List.size_toArray] at hS
   have HS:=zIo hS
   have HI : Hid (i % ws.length = i):=Nat.mod_eq_of_lt hi2
   have HE : Hid (IsEnd ws 1 (i : Int)):=.inr ⟨i,rfl,hi2,hi3,fun j hj hl=>by
    rw [if_neg (by decide)]
    have:=hi4 j hj hl
    rw [HI.out,Nat.mod_eq_of_lt hj] at this
    omega⟩
   clear hS hB hBc hb2 hi1 hi2 hi3 hi4
   go_wp2_with fail
   refine HS.out.mono ?_
   rintro r w3 ⟨rfl,hsw⟩
   have HY : Hid (Below W.heap.size W w3):=by obtain ⟨nn,os,rfl⟩:=hsw; exact zCr HB2.out hgW
   clear hsw
   unfold encI
   rw [HI.out]
   go_wp2_with fail
   go_ret
   exact ⟨i,rfl,HE.out,HY.out⟩
end
section
theorem fld1 (s e g lo hi : Int) (w : World) : (Instr.field 140 (wd s e g lo hi) 1).run Tryz.prog w = .ok (i64 e) w:=by
 simp [Instr.field,go_sem,asAgg]
theorem fld3 (s e g lo hi : Int) (w : World) : (Instr.field 140 (wd s e g lo hi) 3).run Tryz.prog w = .ok (st lo hi) w:=by
 simp [Instr.field,go_sem,asAgg,Tryz.isAgg57,Tryz.sizeOf57]
attribute [local go_sem ↓] fld0 fld1 fld3
end
section
attribute [local go_sem ↓] fld0 fld1 fld3
structure IsUpto (ws : List Int) (e : Nat) (S : List Nat) : Prop where
 rise : S.Pairwise (fun i j=>wkey ws i < wkey ws j)
 mem : ∀ i,i ∈ S ↔ i < e ∧ live ws i
theorem IsUpto.len {ws : List Int} {e : Nat} {S : List Nat} (h : IsUpto ws e S) : S.length ≤ e:=by
 have hnd : S.Nodup:=h.rise.imp (fun {a b} hab=>fun e=>by subst e; omega)
 have hp : S.Perm (upto ws e):=(List.perm_ext_iff_of_nodup hnd (zFQ ws e)).2 (fun i=>(h.mem i).trans zBW.symm)
 rw [hp.length_eq]
 exact zBh ws e
theorem zGS {w : World} {base : Nat} {e : TypeId} {g n cap : Nat} {ws : List Int} (h : w.ownsRow base e 1 (.slice (some ⟨g,0,none⟩) n cap) n (ws.map (Value.int .u64))) (hf : ∀ i,0 ≤ ws.getD i 0 ∧ ws.getD i 0 ≤ 18446744073709551615) : IsWs w (some ⟨g,0,none⟩) ws:=by
 have hl:=h.1
 rw [List.length_map] at hl
 exact ⟨fun _=>⟨g,0,rfl,fun i hi=>by rw [Nat.zero_add]; exact zH8 h (by omega)⟩,hf⟩
theorem IsOrder.len {ws : List Int} {S : List Nat} (h : IsOrder ws S) : S.length ≤ ws.length:=IsUpto.len ⟨h.rise,h.mem⟩
end
section
theorem zAr (ws : List Int) (k : Nat) (y : Int) {i : Nat} (h : i ≠ k) : (ws.set k y).getD i 0 = ws.getD i 0:=by
 rw [List.getD_eq_getElem?_getD,List.getElem?_set_ne (fun e=>h e.symm), ← List.getD_eq_getElem?_getD]
theorem zDR (ws : List Int) (k : Nat) (y : Int) (h : k < ws.length) : (ws.set k y).getD k 0 = y:=by
 rw [List.getD_eq_getElem?_getD,List.getElem?_set_self h]
 rfl
theorem zBo {ws : List Int} {S T : List Nat} {k : Nat} {y : Int} (h : IsOrder ws S) (hk : k < ws.length) (hy : y % 4 = 2) (hT : T.Sublist S) (hm : ∀ i,i ∈ T ↔ i ∈ S ∧ i ≠ k) : IsOrder (ws.set k y) T:=by
 refine ⟨?_,fun i=>?_⟩
 ·have h1:=h.rise.sublist hT
  refine List.Pairwise.imp_of_mem (fun {a b} ha hb hab=>?_) h1
  unfold wkey at hab ⊢
  rw [zAr _ _ _ ((hm a).1 ha).2,zAr _ _ _ ((hm b).1 hb).2]
  exact hab
 ·rw [hm i,h.mem i,List.length_set]
  constructor
  ·rintro ⟨⟨h1,h2⟩,h3⟩
   exact ⟨h1,by show (ws.set k y).getD i 0 % 4 = 1; rw [zAr _ _ _ h3]; exact h2⟩
  ·rintro ⟨h1,h2⟩
   have h2' : (ws.set k y).getD i 0 % 4 = 1:=h2
   by_cases h3 : i = k
   ·subst h3
    rw [zDR _ _ _ hk] at h2'
    omega
   ·rw [zAr _ _ _ h3] at h2'
    exact ⟨⟨h1,h2'⟩,h3⟩
theorem zF2 {ws : List Int} {S : List Nat} {k : Nat} {y : Int} (h : IsOrder ws S) (hk : k < ws.length) (hl : live ws k) (hle : ∀ j,j < ws.length → live ws j → wkey ws k ≤ wkey ws j) (hy : y % 4 = 2) : ∃ T,S = k :: T ∧ IsOrder (ws.set k y) T:=by
 have hm:=(h.mem k).2 ⟨hk,hl⟩
 cases S with
 | nil=>cases hm
 | cons a T =>
  have hp:=List.pairwise_cons.1 h.rise
  have ha:=(h.mem a).1 List.mem_cons_self
  have hak : a = k:=by
   rcases List.mem_cons.1 hm with e | hT
   ·exact e.symm
   ·have h1:=hp.1 k hT
    have h2:=hle a ha.1 ha.2
    omega
  subst hak
  refine ⟨T,rfl,zBo h hk hy (List.sublist_cons_self _ _) (fun i=>?_)⟩
  constructor
  ·intro hi
   refine ⟨List.mem_cons_of_mem _ hi,fun e=>?_⟩
   subst e
   have:=hp.1 i hi
   omega
  ·rintro ⟨h1,h2⟩
   rcases List.mem_cons.1 h1 with e | h3
   ·exact absurd e h2
   ·exact h3
theorem zEw {ws : List Int} {S : List Nat} {k : Nat} {y : Int} (h : IsOrder ws S) (hk : k < ws.length) (hl : live ws k) (hle : ∀ j,j < ws.length → live ws j → wkey ws j ≤ wkey ws k) (hy : y % 4 = 2) : ∃ T,S = T ++ [k] ∧ IsOrder (ws.set k y) T:=by
 have hm:=(h.mem k).2 ⟨hk,hl⟩
 have hne : S ≠ []:=fun e=>by rw [e] at hm; cases hm
 obtain ⟨T,a,rfl⟩ : ∃ T a,S = T ++ [a]:=⟨S.dropLast,S.getLast hne,(List.dropLast_concat_getLast hne).symm⟩
 have hp:=List.pairwise_append.1 h.rise
 have ha:=(h.mem a).1 (by simp)
 have hak : a = k:=by
  rcases List.mem_append.1 hm with hT | e
  ·have h1:=hp.2.2 k hT a (by simp)
   have h2:=hle a ha.1 ha.2
   omega
  ·exact (List.mem_singleton.1 e).symm
 subst hak
 refine ⟨T,rfl,zBo h hk hy (List.sublist_append_left _ _) (fun i=>?_)⟩
 constructor
 ·intro hi
  refine ⟨List.mem_append_left _ hi,fun e=>?_⟩
  subst e
  have:=hp.2.2 i hi i (by simp)
  omega
 ·rintro ⟨h1,h2⟩
  rcases List.mem_append.1 h1 with h3 | h3
  ·exact h3
  ·exact absurd (by simpa using h3) h2
def lessS (e : Int) (S : List Nat) : List Nat:=if e = 0 then S.tail else S.dropLast
theorem zFH {ws : List Int} {S : List Nat} {e y : Int} {j : Nat} (h : IsOrder ws S) (hz : IsEnd ws e j) (hy : y % 4 = 2) :
  IsOrder (ws.set j y) (lessS e S) ∧ S.length = (lessS e S).length + 1 ∧ (e = 0 → S = j :: lessS e S) ∧ (e ≠ 0 → S = lessS e S ++ [j]):=by
 rcases hz with ⟨h1,_⟩ | ⟨i,h1,h2,h3,h4⟩
 ·omega
 ·obtain rfl : j = i:=by omega
  unfold lessS
  by_cases he : e = 0
  ·rw [if_pos he]
   obtain ⟨T,rfl,hT⟩:=zF2 h h2 h3 (fun q a b=>by have:=h4 q a b; rwa [if_pos he] at this) hy
   exact ⟨hT,rfl,fun _=>rfl,fun h=>absurd he h⟩
  ·rw [if_neg he]
   obtain ⟨T,rfl,hT⟩:=zEw h h2 h3 (fun q a b=>by have:=h4 q a b; rwa [if_neg he] at this) hy
   rw [List.dropLast_concat]
   exact ⟨hT,by simp,fun h=>absurd h he,fun _=>rfl⟩
end
end
end Go.Proofs.YtjlpidjilonhfaaGreat
