/- Contracts and plain lemmas that these laws need. No condition. -/
import Derived.Carry
import Derived.OwnWalk
import Derived.Test.YtebgjfhaolgcjaaGreatQLE1
import Derived.Test.YtebgjfhaolgcjaaGreatQLE9
import Derived.Test.YtebgjfhaolgcjaaGreatQLE11
import Derived.Test.YtebgjfhaolgcjaaGreatQLE12
namespace Go.Proofs.YtebgjfhaolgcjaaGreat
set_option linter.unusedVariables false
set_option maxHeartbeats 8000000
set_option maxRecDepth 100000
section
open Go.RowKit
section
variable {w : World} {wb bc bg : Nat} {t s so d : Int} {N n : Nat} {f : Int → Int} {g : Int → Int → Option Int} {e : Ev}
theorem zGT (h : WAt w wb bc bg t s so d N n f g) (hf : e.Fit) (c1 : e.who < 0) :
  Calls Tryz.prog 57 #[pt wb,e.v] w fun r w'=>r = .returned (.bool false) ∧ Below w.heap.size w w':=by
 have hlay:=h.lay
 have HLA:=zI2 hlay
 have n1:=hlay.n1
 have n2:=hlay.n2
 have t1:=hlay.t1
 have t2:=hlay.t2
 have s1:=hlay.s1
 have s2:=hlay.s2
 have hb0:=zAB (Below.refl w.heap.size w) (e.obj 101)
 have HB0:=zI2 hb0
 have HO : Hid (IsObj (w.alloc (e.obj 101)) w.heap.size [i64 e.who,i64 e.op,i64 e.cell,u64 e.old,u64 e.new,.bool e.ok]):=zI2 (IsObj.made w [i64 e.who,i64 e.op,i64 e.cell,u64 e.old,u64 e.new,.bool e.ok] 101)
 have HW:=zI2 (h.later hb0)
 have HFE:=zI2 hf
 have hwb0:=(h.later hb0).obj.lt
 obtain ⟨x,hx⟩ : ∃ x,f e.cell = x:=⟨_,rfl⟩
 have HX:=zI2 hx
 have p1 : decide (e.who < 0) = true:=decide_eq_true c1
 have HFC:=zI2 hf.c
 clear h hb0 hf hlay hx
 go_enter Tryz.func57,Tryz.ntmps57
 go_wp2_with fail
 generalize w.alloc (e.obj 101) = w1 at HO HW HB0 ⊢
 generalize w.heap.size = eb at HO ⊢
 obtain ⟨e0,e1,e2,e3,e4,e5⟩ : _ ∧ _ ∧ _ ∧ _ ∧ _ ∧ _:=⟨HO.out.at' 0 _ rfl,HO.out.at' 1 _ rfl,HO.out.at' 2 _ rfl,HO.out.at' 3 _ rfl,HO.out.at' 4 _ rfl,HO.out.at' 5 _ rfl⟩
 obtain ⟨q0,q1,q2,q3,q4,q5⟩ : _ ∧ _ ∧ _ ∧ _ ∧ _ ∧ _:=⟨HW.out.obj.at' 0 _ rfl,HW.out.obj.at' 1 _ rfl,HW.out.obj.at' 2 _ rfl,HW.out.obj.at' 3 _ rfl,HW.out.obj.at' 4 _ rfl,HW.out.obj.at' 5 _ rfl⟩
 obtain ⟨MC,hmc⟩:=HW.out.cells
 have HMC:=zI2 hmc
 clear hmc
 refine zAJ ((0,true) :: (1,true) :: (2,true) :: (3,true) :: (4,true) :: (5,true) :: (6,true) :: (7,true) :: (8,true) :: (9,true) :: (10,true) :: (11,true) :: (12,true) :: (13,true) :: (14,true) :: (15,true) :: (16,true) :: (17,true) :: (18,true) :: (19,true) :: (20,true) :: (21,true) :: (22,true) :: (23,true) :: (24,true) :: []) (by kernel_rfl) (by kernel_rfl) (by kernel_rfl) (by decide) (fun _ _ _ _ _ h=>h) (fun hHeld=>?_)
 iterate 22 (first | (refine zAC (v := ?_) rfl ?_ ?_ ?_; rotate_left 1; rfl; (focus (intro wS hSw; have hk:=zAE hSw; go_simp; first | done | with_reducible rfl)); (try simp only [Act.put,qset])) | (refine zAD rfl ?_ ?_; rfl; (try simp only [Act.put,qset])))
 iterate 1 (first | (refine zAC (v := ?_) rfl ?_ ?_ ?_; rotate_left 1; rfl; (focus (intro wS hSw; have hk:=zAE hSw; go_simp; first | done | with_reducible rfl)); (try simp only [Act.put,qset])) | (refine zAD rfl ?_ ?_; rfl; (try simp only [Act.put,qset])))
 iterate 2 (first | (refine zAC (v := ?_) rfl ?_ ?_ ?_; rotate_left 1; rfl; (focus (intro wS hSw; have hk:=zAE hSw; go_simp; first | done | with_reducible rfl)); (try simp only [Act.put,qset])) | (refine zAD rfl ?_ ?_; rfl; (try simp only [Act.put,qset])))
 refine zAI ?_
 go_wp2_with fail
 go_ret
 exact ⟨rfl,zAA HB0.out hHeld⟩
theorem zFp (h : WAt w wb bc bg t s so d N n f g) (hf : e.Fit) (c1 : 0 ≤ e.who) (c2 : t ≤ e.who) :
  Calls Tryz.prog 57 #[pt wb,e.v] w fun r w'=>r = .returned (.bool false) ∧ Below w.heap.size w w':=by
 have hlay:=h.lay
 have HLA:=zI2 hlay
 have n1:=hlay.n1
 have n2:=hlay.n2
 have t1:=hlay.t1
 have t2:=hlay.t2
 have s1:=hlay.s1
 have s2:=hlay.s2
 have hb0:=zAB (Below.refl w.heap.size w) (e.obj 101)
 have HB0:=zI2 hb0
 have HO : Hid (IsObj (w.alloc (e.obj 101)) w.heap.size [i64 e.who,i64 e.op,i64 e.cell,u64 e.old,u64 e.new,.bool e.ok]):=zI2 (IsObj.made w [i64 e.who,i64 e.op,i64 e.cell,u64 e.old,u64 e.new,.bool e.ok] 101)
 have HW:=zI2 (h.later hb0)
 have HFE:=zI2 hf
 have hwb0:=(h.later hb0).obj.lt
 obtain ⟨x,hx⟩ : ∃ x,f e.cell = x:=⟨_,rfl⟩
 have HX:=zI2 hx
 have p1 : ¬ e.who < 0:=by omega
 have p1x : decide (e.who < 0) = false:=decide_eq_false p1
 have p2 : decide (t ≤ e.who) = true:=decide_eq_true c2
 have HFC:=zI2 hf.c
 clear h hb0 hf hlay hx
 go_enter Tryz.func57,Tryz.ntmps57
 go_wp2_with fail
 generalize w.alloc (e.obj 101) = w1 at HO HW HB0 ⊢
 generalize w.heap.size = eb at HO ⊢
 obtain ⟨e0,e1,e2,e3,e4,e5⟩ : _ ∧ _ ∧ _ ∧ _ ∧ _ ∧ _:=⟨HO.out.at' 0 _ rfl,HO.out.at' 1 _ rfl,HO.out.at' 2 _ rfl,HO.out.at' 3 _ rfl,HO.out.at' 4 _ rfl,HO.out.at' 5 _ rfl⟩
 obtain ⟨q0,q1,q2,q3,q4,q5⟩ : _ ∧ _ ∧ _ ∧ _ ∧ _ ∧ _:=⟨HW.out.obj.at' 0 _ rfl,HW.out.obj.at' 1 _ rfl,HW.out.obj.at' 2 _ rfl,HW.out.obj.at' 3 _ rfl,HW.out.obj.at' 4 _ rfl,HW.out.obj.at' 5 _ rfl⟩
 obtain ⟨MC,hmc⟩:=HW.out.cells
 have HMC:=zI2 hmc
 clear hmc
 refine zAJ ((0,true) :: (1,true) :: (2,true) :: (3,true) :: (4,true) :: (5,true) :: (6,true) :: (7,true) :: (8,true) :: (9,true) :: (10,true) :: (11,true) :: (12,true) :: (13,true) :: (14,true) :: (15,true) :: (16,true) :: (17,true) :: (18,true) :: (19,true) :: (20,true) :: (21,true) :: (22,true) :: (23,true) :: (24,true) :: []) (by kernel_rfl) (by kernel_rfl) (by kernel_rfl) (by decide) (fun _ _ _ _ _ h=>h) (fun hHeld=>?_)
 iterate 22 (first | (refine zAC (v := ?_) rfl ?_ ?_ ?_; rotate_left 1; rfl; (focus (intro wS hSw; have hk:=zAE hSw; go_simp; first | done | with_reducible rfl)); (try simp only [Act.put,qset])) | (refine zAD rfl ?_ ?_; rfl; (try simp only [Act.put,qset])))
 iterate 1 (first | (refine zAC (v := ?_) rfl ?_ ?_ ?_; rotate_left 1; rfl; (focus (intro wS hSw; have hk:=zAE hSw; go_simp; first | done | with_reducible rfl)); (try simp only [Act.put,qset])) | (refine zAD rfl ?_ ?_; rfl; (try simp only [Act.put,qset])))
 iterate 2 (first | (refine zAC (v := ?_) rfl ?_ ?_ ?_; rotate_left 1; rfl; (focus (intro wS hSw; have hk:=zAE hSw; go_simp; first | done | with_reducible rfl)); (try simp only [Act.put,qset])) | (refine zAD rfl ?_ ?_; rfl; (try simp only [Act.put,qset])))
 refine zAI ?_
 go_wp2_with fail
 go_ret
 exact ⟨rfl,zAA HB0.out hHeld⟩
theorem zHB (h : WAt w wb bc bg t s so d N n f g) (hf : e.Fit) (c1 : 0 ≤ e.who) (c2 : e.who < t) (c5 : e.old ≠ f e.cell) :
  Calls Tryz.prog 57 #[pt wb,e.v] w fun r w'=>r = .returned (.bool false) ∧ Below w.heap.size w w':=by
 have hlay:=h.lay
 have HLA:=zI2 hlay
 have n1:=hlay.n1
 have n2:=hlay.n2
 have t1:=hlay.t1
 have t2:=hlay.t2
 have s1:=hlay.s1
 have s2:=hlay.s2
 have hb0:=zAB (Below.refl w.heap.size w) (e.obj 101)
 have HB0:=zI2 hb0
 have HO : Hid (IsObj (w.alloc (e.obj 101)) w.heap.size [i64 e.who,i64 e.op,i64 e.cell,u64 e.old,u64 e.new,.bool e.ok]):=zI2 (IsObj.made w [i64 e.who,i64 e.op,i64 e.cell,u64 e.old,u64 e.new,.bool e.ok] 101)
 have HW:=zI2 (h.later hb0)
 have HFE:=zI2 hf
 have hwb0:=(h.later hb0).obj.lt
 obtain ⟨x,hx⟩ : ∃ x,f e.cell = x:=⟨_,rfl⟩
 have HX:=zI2 hx
 have p1 : ¬ e.who < 0:=by omega
 have p1x : decide (e.who < 0) = false:=decide_eq_false p1
 have p2 : ¬ t ≤ e.who:=by omega
 have p2x : decide (t ≤ e.who) = false:=decide_eq_false p2
 have xn : (e.old != x) = true:=bne_iff_ne.2 (by rw [hx] at c5; exact c5)
 clear c5
 have HFC:=zI2 hf.c
 clear h hb0 hf hlay hx
 go_enter Tryz.func57,Tryz.ntmps57
 go_wp2_with fail
 generalize w.alloc (e.obj 101) = w1 at HO HW HB0 ⊢
 generalize w.heap.size = eb at HO ⊢
 obtain ⟨e0,e1,e2,e3,e4,e5⟩ : _ ∧ _ ∧ _ ∧ _ ∧ _ ∧ _:=⟨HO.out.at' 0 _ rfl,HO.out.at' 1 _ rfl,HO.out.at' 2 _ rfl,HO.out.at' 3 _ rfl,HO.out.at' 4 _ rfl,HO.out.at' 5 _ rfl⟩
 obtain ⟨q0,q1,q2,q3,q4,q5⟩ : _ ∧ _ ∧ _ ∧ _ ∧ _ ∧ _:=⟨HW.out.obj.at' 0 _ rfl,HW.out.obj.at' 1 _ rfl,HW.out.obj.at' 2 _ rfl,HW.out.obj.at' 3 _ rfl,HW.out.obj.at' 4 _ rfl,HW.out.obj.at' 5 _ rfl⟩
 obtain ⟨MC,hmc⟩:=HW.out.cells
 have HMC:=zI2 hmc
 clear hmc
 refine zAJ ((0,true) :: (1,true) :: (2,true) :: (3,true) :: (4,true) :: (5,true) :: (6,true) :: (7,true) :: (8,true) :: (9,true) :: (10,true) :: (11,true) :: (12,true) :: (13,true) :: (14,true) :: (15,true) :: (16,true) :: (17,true) :: (18,true) :: (19,true) :: (20,true) :: (21,true) :: (22,true) :: (23,true) :: (24,true) :: []) (by kernel_rfl) (by kernel_rfl) (by kernel_rfl) (by decide) (fun _ _ _ _ _ h=>h) (fun hHeld=>?_)
 iterate 22 (first | (refine zAC (v := ?_) rfl ?_ ?_ ?_; rotate_left 1; rfl; (focus (intro wS hSw; have hk:=zAE hSw; go_simp; first | done | with_reducible rfl)); (try simp only [Act.put,qset])) | (refine zAD rfl ?_ ?_; rfl; (try simp only [Act.put,qset])))
 refine zAC (v:=.int .u64 x) rfl rfl (fun wS hSw=>zBv _ _ _ rfl zBE rfl (HMC.out.later hSw) e.cell x rfl HFC.out HX.out) ?_
 (try simp only [Act.put,qset])
 iterate 2 (first | (refine zAC (v := ?_) rfl ?_ ?_ ?_; rotate_left 1; rfl; (focus (intro wS hSw; have hk:=zAE hSw; go_simp; first | done | with_reducible rfl)); (try simp only [Act.put,qset])) | (refine zAD rfl ?_ ?_; rfl; (try simp only [Act.put,qset])))
 refine zAI ?_
 go_wp2_with fail
 go_ret
 exact ⟨rfl,zAA HB0.out hHeld⟩
theorem zIb (h : WAt w wb bc bg t s so d N n f g) (hf : e.Fit) (c1 : 0 ≤ e.who) (c2 : e.who < t) (c5 : e.old = f e.cell) (bo : Bool) (hb : bo = true ↔ MayF t s so N f g e) :
  Calls Tryz.prog 57 #[pt wb,e.v] w fun r w'=>r = .returned (.bool bo) ∧ Below w.heap.size w w':=by
 unfold MayF at hb
 have HBB:=zI2 hb
 have C5:=zI2 c5
 clear hb
 have hlay:=h.lay
 have HLA:=zI2 hlay
 have n1:=hlay.n1
 have n2:=hlay.n2
 have t1:=hlay.t1
 have t2:=hlay.t2
 have s1:=hlay.s1
 have s2:=hlay.s2
 have hb0:=zAB (Below.refl w.heap.size w) (e.obj 101)
 have HB0:=zI2 hb0
 have HO : Hid (IsObj (w.alloc (e.obj 101)) w.heap.size [i64 e.who,i64 e.op,i64 e.cell,u64 e.old,u64 e.new,.bool e.ok]):=zI2 (IsObj.made w [i64 e.who,i64 e.op,i64 e.cell,u64 e.old,u64 e.new,.bool e.ok] 101)
 have HW:=zI2 (h.later hb0)
 have HFE:=zI2 hf
 have hwb0:=(h.later hb0).obj.lt
 obtain ⟨x,hx⟩ : ∃ x,f e.cell = x:=⟨_,rfl⟩
 have HX:=zI2 hx
 have p1 : ¬ e.who < 0:=by omega
 have p1x : decide (e.who < 0) = false:=decide_eq_false p1
 have p2 : ¬ t ≤ e.who:=by omega
 have p2x : decide (t ≤ e.who) = false:=decide_eq_false p2
 have xn : (e.old != x) = false:=by simp [← hx,c5]
 clear c5
 have HFC:=zI2 hf.c
 clear h hb0 hf hlay hx
 go_enter Tryz.func57,Tryz.ntmps57
 go_wp2_with fail
 generalize w.alloc (e.obj 101) = w1 at HO HW HB0 ⊢
 generalize w.heap.size = eb at HO ⊢
 obtain ⟨e0,e1,e2,e3,e4,e5⟩ : _ ∧ _ ∧ _ ∧ _ ∧ _ ∧ _:=⟨HO.out.at' 0 _ rfl,HO.out.at' 1 _ rfl,HO.out.at' 2 _ rfl,HO.out.at' 3 _ rfl,HO.out.at' 4 _ rfl,HO.out.at' 5 _ rfl⟩
 obtain ⟨q0,q1,q2,q3,q4,q5⟩ : _ ∧ _ ∧ _ ∧ _ ∧ _ ∧ _:=⟨HW.out.obj.at' 0 _ rfl,HW.out.obj.at' 1 _ rfl,HW.out.obj.at' 2 _ rfl,HW.out.obj.at' 3 _ rfl,HW.out.obj.at' 4 _ rfl,HW.out.obj.at' 5 _ rfl⟩
 obtain ⟨MC,hmc⟩:=HW.out.cells
 have HMC:=zI2 hmc
 clear hmc
 refine zAJ ((0,true) :: (1,true) :: (2,true) :: (3,true) :: (4,true) :: (5,true) :: (6,true) :: (7,true) :: (8,true) :: (9,true) :: (10,true) :: (11,true) :: (12,true) :: (13,true) :: (14,true) :: (15,true) :: (16,true) :: (17,true) :: (18,true) :: (19,true) :: (20,true) :: (21,true) :: (22,true) :: (23,true) :: (24,true) :: []) (by kernel_rfl) (by kernel_rfl) (by kernel_rfl) (by decide) (fun _ _ _ _ _ h=>h) (fun hHeld=>?_)
 iterate 22 (first | (refine zAC (v := ?_) rfl ?_ ?_ ?_; rotate_left 1; rfl; (focus (intro wS hSw; have hk:=zAE hSw; go_simp; first | done | with_reducible rfl)); (try simp only [Act.put,qset])) | (refine zAD rfl ?_ ?_; rfl; (try simp only [Act.put,qset])))
 refine zAC (v:=.int .u64 x) rfl rfl (fun wS hSw=>zBv _ _ _ rfl zBE rfl (HMC.out.later hSw) e.cell x rfl HFC.out HX.out) ?_
 (try simp only [Act.put,qset])
 iterate 2 (first | (refine zAC (v := ?_) rfl ?_ ?_ ?_; rotate_left 1; rfl; (focus (intro wS hSw; have hk:=zAE hSw; go_simp; first | done | with_reducible rfl)); (try simp only [Act.put,qset])) | (refine zAD rfl ?_ ?_; rfl; (try simp only [Act.put,qset])))
 refine zAI ?_
 have hb:=HBB.out
 rcases (show (e.cell < 0 ∨ 2 * N + 2 * t ≤ e.cell) ∨ (0 ≤ e.cell ∧ e.cell < N) ∨ (0 ≤ e.cell ∧ N ≤ e.cell ∧ e.cell < 2 * N) ∨ (0 ≤ e.cell ∧ 2 * N + t ≤ e.cell ∧ e.cell < 2 * N + 2 * t) ∨ (0 ≤ e.cell ∧ 2 * N ≤ e.cell ∧ e.cell < 2 * N + t) from by omega) with c3 | ⟨c3,c6⟩ | ⟨c3,c6,c7⟩ | ⟨c3,c6,c7⟩ | ⟨c3,c6,c7⟩
 ·obtain rfl : bo = false:=by
   cases bo with
   | false=>rfl
   | true =>
    obtain ⟨_,_,i3,i4,_⟩:=hb.1 rfl
    omega
  clear hb
  have HK : Hid (KindC t N e.cell 0 (0)):=.inl ⟨c3,rfl,rfl⟩
  have HB2:=zI2 (zAA HB0.out hHeld)
  have HO2:=zI2 (HO.out.later hHeld)
  have HW2:=zI2 (HW.out.later hHeld)
  generalize w1.drew = w2 at HB2 HO2 HW2 hHeld ⊢
  clear hHeld e0 e1 e2 e3 e4 e5 q0 q1 q2 q3 q4 q5 HMC
  obtain ⟨e0,e1,e2,e3,e4,e5⟩ : _ ∧ _ ∧ _ ∧ _ ∧ _ ∧ _:=⟨HO2.out.at' 0 _ rfl,HO2.out.at' 1 _ rfl,HO2.out.at' 2 _ rfl,HO2.out.at' 3 _ rfl,HO2.out.at' 4 _ rfl,HO2.out.at' 5 _ rfl⟩
  obtain ⟨q0,q1,q2,q3,q4,q5⟩ : _ ∧ _ ∧ _ ∧ _ ∧ _ ∧ _:=⟨HW2.out.obj.at' 0 _ rfl,HW2.out.obj.at' 1 _ rfl,HW2.out.obj.at' 2 _ rfl,HW2.out.obj.at' 3 _ rfl,HW2.out.obj.at' 4 _ rfl,HW2.out.obj.at' 5 _ rfl⟩
  go_wp2_with fail
  refine zAJ ((0,true) :: (1,true) :: (2,true) :: (3,true) :: (4,true) :: (5,true) :: (6,false) :: (7,true) :: (8,true) :: (9,true) :: (10,true) :: (11,true) :: []) (by kernel_rfl) (by kernel_rfl) (by kernel_rfl) (by decide) (fun _ _ _ _ _ h=>h) (fun hHeld=>?_)
  repeat (first
   | (refine zAC (v := ?_) rfl ?_ ?_ ?_; rotate_left 1; rfl; (focus (intro wS hSw; have hk:=zAE hSw; go_simp; first | done | with_reducible rfl)); (try simp only [Act.put,qset]))
   | (refine zAD rfl ?_ ?_; rfl; (try simp only [Act.put,qset]))
   | (refine zAG rfl (fun K hK=>?_); go_simp; (try (first | (go_at_call 85; refine (zAt t s so d N e.cell 0 0 _ HLA.out HK.out).mono ?_; rintro e w' ⟨rfl,hb'⟩))); (try go_wp2_with fail); refine hK.out _ _ ?_ ?_; (focus (first | exact zAA hHeld hb' | exact zAB hHeld _ | exact hHeld)); (try clear hb'); clear hHeld hK K; intro hHeld; (try simp only [Act.put,qset])))
  first | refine zAI ?_ | skip
  have HB3:=zI2 (zAA HB2.out hHeld)
  have HO3:=zI2 (HO2.out.later hHeld)
  have HW3:=zI2 (HW2.out.later hHeld)
  clear hHeld e0 e1 e2 e3 e4 e5 q0 q1 q2 q3 q4 q5
  obtain ⟨e0,e1,e2,e3,e4,e5⟩ : _ ∧ _ ∧ _ ∧ _ ∧ _ ∧ _:=⟨HO3.out.at' 0 _ rfl,HO3.out.at' 1 _ rfl,HO3.out.at' 2 _ rfl,HO3.out.at' 3 _ rfl,HO3.out.at' 4 _ rfl,HO3.out.at' 5 _ rfl⟩
  obtain ⟨q0,q1,q2,q3,q4,q5⟩ : _ ∧ _ ∧ _ ∧ _ ∧ _ ∧ _:=⟨HW3.out.obj.at' 0 _ rfl,HW3.out.obj.at' 1 _ rfl,HW3.out.obj.at' 2 _ rfl,HW3.out.obj.at' 3 _ rfl,HW3.out.obj.at' 4 _ rfl,HW3.out.obj.at' 5 _ rfl⟩
  go_wp2_with fail
  go_ret
  exact ⟨rfl,HB3.out⟩
 ·have hmid : bo = true ↔ (if e.cell < N then MayW s e else if e.cell < 2 * N then MayV N s f g e else if e.cell < 2 * N + t then MayH N e else MayN so (e.cell - 2 * N - t) e):=⟨fun hq=>(hb.1 hq).2.2.2.2.2,fun hq=>hb.2 ⟨c1,c2,by omega,by omega,C5.out,hq⟩⟩
  rw [if_pos c6] at hmid
  have HB:=zI2 hmid
  clear hb hmid
  have HK : Hid (KindC t N e.cell 1 (e.cell)):=.inr (.inl ⟨c3,c6,rfl,rfl⟩)
  have HB2:=zI2 (zAA HB0.out hHeld)
  have HO2:=zI2 (HO.out.later hHeld)
  have HW2:=zI2 (HW.out.later hHeld)
  generalize w1.drew = w2 at HB2 HO2 HW2 hHeld ⊢
  clear hHeld e0 e1 e2 e3 e4 e5 q0 q1 q2 q3 q4 q5 HMC
  obtain ⟨e0,e1,e2,e3,e4,e5⟩ : _ ∧ _ ∧ _ ∧ _ ∧ _ ∧ _:=⟨HO2.out.at' 0 _ rfl,HO2.out.at' 1 _ rfl,HO2.out.at' 2 _ rfl,HO2.out.at' 3 _ rfl,HO2.out.at' 4 _ rfl,HO2.out.at' 5 _ rfl⟩
  obtain ⟨q0,q1,q2,q3,q4,q5⟩ : _ ∧ _ ∧ _ ∧ _ ∧ _ ∧ _:=⟨HW2.out.obj.at' 0 _ rfl,HW2.out.obj.at' 1 _ rfl,HW2.out.obj.at' 2 _ rfl,HW2.out.obj.at' 3 _ rfl,HW2.out.obj.at' 4 _ rfl,HW2.out.obj.at' 5 _ rfl⟩
  go_wp2_with fail
  refine zAJ ((0,true) :: (1,true) :: (2,true) :: (3,true) :: (4,true) :: (5,true) :: (6,false) :: (7,true) :: (8,true) :: (9,true) :: (10,true) :: (11,true) :: []) (by kernel_rfl) (by kernel_rfl) (by kernel_rfl) (by decide) (fun _ _ _ _ _ h=>h) (fun hHeld=>?_)
  repeat (first
   | (refine zAC (v := ?_) rfl ?_ ?_ ?_; rotate_left 1; rfl; (focus (intro wS hSw; have hk:=zAE hSw; go_simp; first | done | with_reducible rfl)); (try simp only [Act.put,qset]))
   | (refine zAD rfl ?_ ?_; rfl; (try simp only [Act.put,qset]))
   | (refine zAG rfl (fun K hK=>?_); go_simp; (try (first | (go_at_call 85; refine (zAt t s so d N e.cell 1 (e.cell) _ HLA.out HK.out).mono ?_; rintro e w' ⟨rfl,hb'⟩))); (try go_wp2_with fail); refine hK.out _ _ ?_ ?_; (focus (first | exact zAA hHeld hb' | exact zAB hHeld _ | exact hHeld)); (try clear hb'); clear hHeld hK K; intro hHeld; (try simp only [Act.put,qset])))
  first | refine zAI ?_ | skip
  have HB3:=zI2 (zAA HB2.out hHeld)
  have HO3:=zI2 (HO2.out.later hHeld)
  have HW3:=zI2 (HW2.out.later hHeld)
  clear hHeld e0 e1 e2 e3 e4 e5 q0 q1 q2 q3 q4 q5
  obtain ⟨e0,e1,e2,e3,e4,e5⟩ : _ ∧ _ ∧ _ ∧ _ ∧ _ ∧ _:=⟨HO3.out.at' 0 _ rfl,HO3.out.at' 1 _ rfl,HO3.out.at' 2 _ rfl,HO3.out.at' 3 _ rfl,HO3.out.at' 4 _ rfl,HO3.out.at' 5 _ rfl⟩
  obtain ⟨q0,q1,q2,q3,q4,q5⟩ : _ ∧ _ ∧ _ ∧ _ ∧ _ ∧ _:=⟨HW3.out.obj.at' 0 _ rfl,HW3.out.obj.at' 1 _ rfl,HW3.out.obj.at' 2 _ rfl,HW3.out.obj.at' 3 _ rfl,HW3.out.obj.at' 4 _ rfl,HW3.out.obj.at' 5 _ rfl⟩
  go_wp2_with fail
  refine (zFs HW3.out HFE.out c3 c6 bo HB.out).mono ?_
  rintro r w4 ⟨rfl,hb4⟩
  have HB4:=zI2 (zAA HB3.out hb4)
  clear hb4
  go_wp2_with fail
  go_ret
  exact ⟨rfl,HB4.out⟩
 ·have hmid : bo = true ↔ (if e.cell < N then MayW s e else if e.cell < 2 * N then MayV N s f g e else if e.cell < 2 * N + t then MayH N e else MayN so (e.cell - 2 * N - t) e):=⟨fun hq=>(hb.1 hq).2.2.2.2.2,fun hq=>hb.2 ⟨c1,c2,by omega,by omega,C5.out,hq⟩⟩
  rw [if_neg (by omega),if_pos c7] at hmid
  have HB:=zI2 hmid
  clear hb hmid
  have HK : Hid (KindC t N e.cell 2 (e.cell - N)):=.inr (.inr (.inl ⟨c6,c7,rfl,rfl⟩))
  have HB2:=zI2 (zAA HB0.out hHeld)
  have HO2:=zI2 (HO.out.later hHeld)
  have HW2:=zI2 (HW.out.later hHeld)
  generalize w1.drew = w2 at HB2 HO2 HW2 hHeld ⊢
  clear hHeld e0 e1 e2 e3 e4 e5 q0 q1 q2 q3 q4 q5 HMC
  obtain ⟨e0,e1,e2,e3,e4,e5⟩ : _ ∧ _ ∧ _ ∧ _ ∧ _ ∧ _:=⟨HO2.out.at' 0 _ rfl,HO2.out.at' 1 _ rfl,HO2.out.at' 2 _ rfl,HO2.out.at' 3 _ rfl,HO2.out.at' 4 _ rfl,HO2.out.at' 5 _ rfl⟩
  obtain ⟨q0,q1,q2,q3,q4,q5⟩ : _ ∧ _ ∧ _ ∧ _ ∧ _ ∧ _:=⟨HW2.out.obj.at' 0 _ rfl,HW2.out.obj.at' 1 _ rfl,HW2.out.obj.at' 2 _ rfl,HW2.out.obj.at' 3 _ rfl,HW2.out.obj.at' 4 _ rfl,HW2.out.obj.at' 5 _ rfl⟩
  go_wp2_with fail
  refine zAJ ((0,true) :: (1,true) :: (2,true) :: (3,true) :: (4,true) :: (5,true) :: (6,false) :: (7,true) :: (8,true) :: (9,true) :: (10,true) :: (11,true) :: []) (by kernel_rfl) (by kernel_rfl) (by kernel_rfl) (by decide) (fun _ _ _ _ _ h=>h) (fun hHeld=>?_)
  repeat (first
   | (refine zAC (v := ?_) rfl ?_ ?_ ?_; rotate_left 1; rfl; (focus (intro wS hSw; have hk:=zAE hSw; go_simp; first | done | with_reducible rfl)); (try simp only [Act.put,qset]))
   | (refine zAD rfl ?_ ?_; rfl; (try simp only [Act.put,qset]))
   | (refine zAG rfl (fun K hK=>?_); go_simp; (try (first | (go_at_call 85; refine (zAt t s so d N e.cell 2 (e.cell - N) _ HLA.out HK.out).mono ?_; rintro e w' ⟨rfl,hb'⟩))); (try go_wp2_with fail); refine hK.out _ _ ?_ ?_; (focus (first | exact zAA hHeld hb' | exact zAB hHeld _ | exact hHeld)); (try clear hb'); clear hHeld hK K; intro hHeld; (try simp only [Act.put,qset])))
  first | refine zAI ?_ | skip
  have HB3:=zI2 (zAA HB2.out hHeld)
  have HO3:=zI2 (HO2.out.later hHeld)
  have HW3:=zI2 (HW2.out.later hHeld)
  clear hHeld e0 e1 e2 e3 e4 e5 q0 q1 q2 q3 q4 q5
  obtain ⟨e0,e1,e2,e3,e4,e5⟩ : _ ∧ _ ∧ _ ∧ _ ∧ _ ∧ _:=⟨HO3.out.at' 0 _ rfl,HO3.out.at' 1 _ rfl,HO3.out.at' 2 _ rfl,HO3.out.at' 3 _ rfl,HO3.out.at' 4 _ rfl,HO3.out.at' 5 _ rfl⟩
  obtain ⟨q0,q1,q2,q3,q4,q5⟩ : _ ∧ _ ∧ _ ∧ _ ∧ _ ∧ _:=⟨HW3.out.obj.at' 0 _ rfl,HW3.out.obj.at' 1 _ rfl,HW3.out.obj.at' 2 _ rfl,HW3.out.obj.at' 3 _ rfl,HW3.out.obj.at' 4 _ rfl,HW3.out.obj.at' 5 _ rfl⟩
  go_wp2_with fail
  refine (zE1 HW3.out HFE.out c1 c2 c3 c6 c7 (e.cell - N) rfl bo HB.out).mono ?_
  rintro r w4 ⟨rfl,hb4⟩
  have HB4:=zI2 (zAA HB3.out hb4)
  clear hb4
  go_wp2_with fail
  go_ret
  exact ⟨rfl,HB4.out⟩
 ·have hmid : bo = true ↔ (if e.cell < N then MayW s e else if e.cell < 2 * N then MayV N s f g e else if e.cell < 2 * N + t then MayH N e else MayN so (e.cell - 2 * N - t) e):=⟨fun hq=>(hb.1 hq).2.2.2.2.2,fun hq=>hb.2 ⟨c1,c2,by omega,by omega,C5.out,hq⟩⟩
  rw [if_neg (by omega),if_neg (by omega),if_neg (by omega),Int.sub_sub] at hmid
  have HB:=zI2 hmid
  clear hb hmid
  have HK : Hid (KindC t N e.cell 4 (e.cell - (2 * N + t))):=.inr (.inr (.inr (.inr ⟨c6,c7,rfl,rfl⟩)))
  have HB2:=zI2 (zAA HB0.out hHeld)
  have HO2:=zI2 (HO.out.later hHeld)
  have HW2:=zI2 (HW.out.later hHeld)
  generalize w1.drew = w2 at HB2 HO2 HW2 hHeld ⊢
  clear hHeld e0 e1 e2 e3 e4 e5 q0 q1 q2 q3 q4 q5 HMC
  obtain ⟨e0,e1,e2,e3,e4,e5⟩ : _ ∧ _ ∧ _ ∧ _ ∧ _ ∧ _:=⟨HO2.out.at' 0 _ rfl,HO2.out.at' 1 _ rfl,HO2.out.at' 2 _ rfl,HO2.out.at' 3 _ rfl,HO2.out.at' 4 _ rfl,HO2.out.at' 5 _ rfl⟩
  obtain ⟨q0,q1,q2,q3,q4,q5⟩ : _ ∧ _ ∧ _ ∧ _ ∧ _ ∧ _:=⟨HW2.out.obj.at' 0 _ rfl,HW2.out.obj.at' 1 _ rfl,HW2.out.obj.at' 2 _ rfl,HW2.out.obj.at' 3 _ rfl,HW2.out.obj.at' 4 _ rfl,HW2.out.obj.at' 5 _ rfl⟩
  go_wp2_with fail
  refine zAJ ((0,true) :: (1,true) :: (2,true) :: (3,true) :: (4,true) :: (5,true) :: (6,false) :: (7,true) :: (8,true) :: (9,true) :: (10,true) :: (11,true) :: []) (by kernel_rfl) (by kernel_rfl) (by kernel_rfl) (by decide) (fun _ _ _ _ _ h=>h) (fun hHeld=>?_)
  repeat (first
   | (refine zAC (v := ?_) rfl ?_ ?_ ?_; rotate_left 1; rfl; (focus (intro wS hSw; have hk:=zAE hSw; go_simp; first | done | with_reducible rfl)); (try simp only [Act.put,qset]))
   | (refine zAD rfl ?_ ?_; rfl; (try simp only [Act.put,qset]))
   | (refine zAG rfl (fun K hK=>?_); go_simp; (try (first | (go_at_call 85; refine (zAt t s so d N e.cell 4 (e.cell - (2 * N + t)) _ HLA.out HK.out).mono ?_; rintro e w' ⟨rfl,hb'⟩))); (try go_wp2_with fail); refine hK.out _ _ ?_ ?_; (focus (first | exact zAA hHeld hb' | exact zAB hHeld _ | exact hHeld)); (try clear hb'); clear hHeld hK K; intro hHeld; (try simp only [Act.put,qset])))
  first | refine zAI ?_ | skip
  have HB3:=zI2 (zAA HB2.out hHeld)
  have HO3:=zI2 (HO2.out.later hHeld)
  have HW3:=zI2 (HW2.out.later hHeld)
  clear hHeld e0 e1 e2 e3 e4 e5 q0 q1 q2 q3 q4 q5
  obtain ⟨e0,e1,e2,e3,e4,e5⟩ : _ ∧ _ ∧ _ ∧ _ ∧ _ ∧ _:=⟨HO3.out.at' 0 _ rfl,HO3.out.at' 1 _ rfl,HO3.out.at' 2 _ rfl,HO3.out.at' 3 _ rfl,HO3.out.at' 4 _ rfl,HO3.out.at' 5 _ rfl⟩
  obtain ⟨q0,q1,q2,q3,q4,q5⟩ : _ ∧ _ ∧ _ ∧ _ ∧ _ ∧ _:=⟨HW3.out.obj.at' 0 _ rfl,HW3.out.obj.at' 1 _ rfl,HW3.out.obj.at' 2 _ rfl,HW3.out.obj.at' 3 _ rfl,HW3.out.obj.at' 4 _ rfl,HW3.out.obj.at' 5 _ rfl⟩
  go_wp2_with fail
  refine (zEP HW3.out HFE.out (e.cell - (2 * N + t)) bo HB.out).mono ?_
  rintro r w4 ⟨rfl,hb4⟩
  have HB4:=zI2 (zAA HB3.out hb4)
  clear hb4
  go_wp2_with fail
  go_ret
  exact ⟨rfl,HB4.out⟩
 ·have hmid : bo = true ↔ (if e.cell < N then MayW s e else if e.cell < 2 * N then MayV N s f g e else if e.cell < 2 * N + t then MayH N e else MayN so (e.cell - 2 * N - t) e):=⟨fun hq=>(hb.1 hq).2.2.2.2.2,fun hq=>hb.2 ⟨c1,c2,by omega,by omega,C5.out,hq⟩⟩
  rw [if_neg (by omega),if_neg (by omega),if_pos c7] at hmid
  have HK : Hid (KindC t N e.cell 3 (e.cell - 2 * N)):=.inr (.inr (.inr (.inl ⟨c6,c7,rfl,rfl⟩)))
  unfold MayH at hmid
  have HMI:=zI2 hmid
  clear hb hmid
  have HB2:=zI2 (zAA HB0.out hHeld)
  have HO2:=zI2 (HO.out.later hHeld)
  have HW2:=zI2 (HW.out.later hHeld)
  generalize w1.drew = w2 at HB2 HO2 HW2 hHeld ⊢
  clear hHeld e0 e1 e2 e3 e4 e5 q0 q1 q2 q3 q4 q5 HMC
  obtain ⟨e0,e1,e2,e3,e4,e5⟩ : _ ∧ _ ∧ _ ∧ _ ∧ _ ∧ _:=⟨HO2.out.at' 0 _ rfl,HO2.out.at' 1 _ rfl,HO2.out.at' 2 _ rfl,HO2.out.at' 3 _ rfl,HO2.out.at' 4 _ rfl,HO2.out.at' 5 _ rfl⟩
  obtain ⟨q0,q1,q2,q3,q4,q5⟩ : _ ∧ _ ∧ _ ∧ _ ∧ _ ∧ _:=⟨HW2.out.obj.at' 0 _ rfl,HW2.out.obj.at' 1 _ rfl,HW2.out.obj.at' 2 _ rfl,HW2.out.obj.at' 3 _ rfl,HW2.out.obj.at' 4 _ rfl,HW2.out.obj.at' 5 _ rfl⟩
  go_wp2_with fail
  refine zAJ ((0,true) :: (1,true) :: (2,true) :: (3,true) :: (4,true) :: (5,true) :: (6,false) :: (7,true) :: (8,true) :: (9,true) :: (10,true) :: (11,true) :: []) (by kernel_rfl) (by kernel_rfl) (by kernel_rfl) (by decide) (fun _ _ _ _ _ h=>h) (fun hHeld=>?_)
  repeat (first
   | (refine zAC (v := ?_) rfl ?_ ?_ ?_; rotate_left 1; rfl; (focus (intro wS hSw; have hk:=zAE hSw; go_simp; first | done | with_reducible rfl)); (try simp only [Act.put,qset]))
   | (refine zAD rfl ?_ ?_; rfl; (try simp only [Act.put,qset]))
   | (refine zAG rfl (fun K hK=>?_); go_simp; (try (first | (go_at_call 85; refine (zAt t s so d N e.cell 3 (e.cell - 2 * N) _ HLA.out HK.out).mono ?_; rintro e w' ⟨rfl,hb'⟩))); (try go_wp2_with fail); refine hK.out _ _ ?_ ?_; (focus (first | exact zAA hHeld hb' | exact zAB hHeld _ | exact hHeld)); (try clear hb'); clear hHeld hK K; intro hHeld; (try simp only [Act.put,qset])))
  first | refine zAI ?_ | skip
  have HB3:=zI2 (zAA HB2.out hHeld)
  have HO3:=zI2 (HO2.out.later hHeld)
  have HW3:=zI2 (HW2.out.later hHeld)
  clear hHeld e0 e1 e2 e3 e4 e5 q0 q1 q2 q3 q4 q5
  obtain ⟨e0,e1,e2,e3,e4,e5⟩ : _ ∧ _ ∧ _ ∧ _ ∧ _ ∧ _:=⟨HO3.out.at' 0 _ rfl,HO3.out.at' 1 _ rfl,HO3.out.at' 2 _ rfl,HO3.out.at' 3 _ rfl,HO3.out.at' 4 _ rfl,HO3.out.at' 5 _ rfl⟩
  obtain ⟨q0,q1,q2,q3,q4,q5⟩ : _ ∧ _ ∧ _ ∧ _ ∧ _ ∧ _:=⟨HW3.out.obj.at' 0 _ rfl,HW3.out.obj.at' 1 _ rfl,HW3.out.obj.at' 2 _ rfl,HW3.out.obj.at' 3 _ rfl,HW3.out.obj.at' 4 _ rfl,HW3.out.obj.at' 5 _ rfl⟩
  have hmid:=HMI.out
  rcases (show (e.op = 0) ∨ (e.op = 1 ∧ e.who = e.cell - 2 * N) ∨ (e.op = 1 ∧ e.who ≠ e.cell - 2 * N) ∨ (e.op ≠ 0 ∧ e.op ≠ 1) from by omega) with gop | ⟨gop,gw⟩ | ⟨gop,gw⟩ | ⟨gn0,gn1⟩
  ·obtain rfl : bo = true:=hmid.2 (.inl gop)
   have z0 : (e.op == 0) = true:=by simp [gop]
   have z1 : (e.op == 1) = false:=by simp [gop]
   have z2 : (e.op == 2) = false:=by simp [gop]
   have z3 : (e.op == 3) = false:=by simp [gop]
   clear hmid gop
   go_wp2_with fail
   go_ret
   exact ⟨rfl,HB3.out⟩
  ·obtain rfl : bo = true:=hmid.2 (.inr ⟨gop,gw⟩)
   have z0 : (e.op == 0) = false:=by simp [gop]
   have z1 : (e.op == 1) = true:=by simp [gop]
   have z2 : (e.op == 2) = false:=by simp [gop]
   have z3 : (e.op == 3) = false:=by simp [gop]
   have z4 : (e.who == e.cell - 2 * (N : Int)) = true:=beq_iff_eq.2 gw
   clear hmid gop gw
   go_wp2_with fail
   go_ret
   exact ⟨rfl,HB3.out⟩
  ·obtain rfl : bo = false:=by
    cases bo with
    | false=>rfl
    | true=>rcases hmid.1 rfl with hq | ⟨_,hq⟩ <;> omega
   have z0 : (e.op == 0) = false:=by simp [gop]
   have z1 : (e.op == 1) = true:=by simp [gop]
   have z2 : (e.op == 2) = false:=by simp [gop]
   have z3 : (e.op == 3) = false:=by simp [gop]
   have z4 : (e.who == e.cell - 2 * (N : Int)) = false:=beq_false_of_ne gw
   clear hmid gop gw
   go_wp2_with fail
   go_ret
   exact ⟨rfl,HB3.out⟩
  ·obtain rfl : bo = false:=by
    cases bo with
    | false=>rfl
    | true=>rcases hmid.1 rfl with hq | ⟨_,hq⟩ <;> omega
   have z0 : (e.op == 0) = false:=beq_false_of_ne gn0
   have z1 : (e.op == 1) = false:=beq_false_of_ne gn1
   obtain ⟨zz2,z2⟩ : ∃ z,(e.op == 2) = z:=⟨_,rfl⟩
   obtain ⟨zz3,z3⟩ : ∃ z,(e.op == 3) = z:=⟨_,rfl⟩
   clear hmid gn0 gn1
   go_wp2_with fail
   go_ret
   exact ⟨rfl,HB3.out⟩
theorem zEl (h : WAt w wb bc bg t s so d N n f g) (hf : e.Fit) (b : Bool) (hb : b = true ↔ MayF t s so N f g e) :
  Calls Tryz.prog 57 #[pt wb,e.v] w fun r w'=>r = .returned (.bool b) ∧ Below w.heap.size w w':=by
 by_cases c1 : 0 ≤ e.who
 ·by_cases c2 : e.who < t
  ·by_cases c5 : e.old = f e.cell
   ·exact zIb h hf c1 c2 c5 b hb
   ·obtain rfl : b = false:=by
     cases b with
     | false=>rfl
     | true=>exact absurd (hb.1 rfl).2.2.2.2.1 c5
    exact zHB h hf c1 c2 c5
  ·obtain rfl : b = false:=by
    cases b with
    | false=>rfl
    | true=>exact absurd (hb.1 rfl).2.1 c2
   exact zFp h hf c1 (by omega)
 ·obtain rfl : b = false:=by
   cases b with
   | false=>rfl
   | true=>exact absurd (hb.1 rfl).1 c1
  exact zGT h hf (by omega)
end
end
section
open Go.RowKit
open Go.RowKit Go.Maps
section
variable {P : Program} {t kt et : TypeId} {qe : IntKind} {κ : Type} {kv : κ → Value} {ok : κ → Prop} {w w' : World} {b n : Nat} {F : κ → Int} {M : κ → Bool}
theorem KMap.keep {T : Nat → Prop} (h : KMap P kt et qe kv ok w b n F M) (e : Keep T w w') (hn : ¬ T b) : KMap P kt et qe kv ok w' b n F M:=by
 have hl:=h.lt
 obtain ⟨D,⟨es,clock,h1,h2⟩,k⟩:=h
 exact ⟨D,⟨es,clock,(e.block b hl hn).trans h1,h2⟩,k⟩
variable {ops : Array Oper} {o : Oper} {a : Act} {Q : Exit → Act → World → Prop} {K : Act → World → Prop} {E : Prop}
theorem zCk (hg : o.guard = none) (m x v : Operand) (t : TypeId) (hop : o.op = Op.mapUpdate t m x v) (ty : KTy P t kt et qe kv ok) (hm : a.eval m = .map (some b)) (h : KMap P kt et qe kv ok w b n F M) (hn : n < maxLen) (k : κ) (c : Int) (hx : a.eval x = kv k) (hv : a.eval v = .int qe c)
  (hk : ok k) (hc : (Lit.int qe c).wf = true) (F' : κ → Int) (M' : κ → Bool) (hF : F' k = c) (hM : M' k = true) (hF' : ∀ z,z ≠ k → F' z = F z) (hM' : ∀ z,z ≠ k → M' z = M z)
  (hK : ∀ w',KMap P kt et qe kv ok w' b (n + 1) F' M' → w.grownBy w' (some b) → K (a.put o.dst undef) w') : if Region.wanted o (yielded ops a.tmps) = true then Oper.wp P o a w K Q else E:=by
 have hw : Region.wanted o (yielded ops a.tmps) = true:=by simp [Region.wanted,hg]
 rw [if_pos hw]
 exact zF4 m x v t hop ty hm h hn k c hx hv hk hc F' M' hF hM hF' hM' hK
end
theorem fld2 (s e g lo hi : Int) (w : World) : (Instr.field 122 (wd s e g lo hi) 2).run Tryz.prog w = .ok (i64 g) w:=by
 simp [Instr.field,go_sem,asAgg]
attribute [local go_sem ↓] fld2
def updF (f : Int → Int) (e : Ev) : Int → Int:=fun c=>if e.cell = c then e.new else f c
def updG (g : Int → Int → Option Int) (e : Ev) : Int → Int → Option Int:=fun who c=>if e.who = who ∧ e.cell = c ∧ e.op = 0 then some e.old else g who c
theorem wf_u64 {a : Int} (h0 : 0 ≤ a) (h1 : a ≤ 18446744073709551615) : (Lit.int .u64 a).wf = true:=WalkArith.wf_u64 (by omega)
section
variable {w : World} {wb bc bg : Nat} {t s so d : Int} {N n : Nat} {f : Int → Int} {g : Int → Int → Option Int} {e : Ev}
theorem zHq (h : ∀ c,0 ≤ f c ∧ f c ≤ 18446744073709551615) (hf : e.Fit) (c : Int) : 0 ≤ updF f e c ∧ updF f e c ≤ 18446744073709551615:=by
 unfold updF
 split
 ·exact ⟨hf.n0,hf.n1⟩
 ·exact h c
theorem zD0 (h : GMap N w bg n g) (hc : N ≤ e.cell ∨ e.op ≠ 0) : GMap N w bg (n + 1) (updG g e) :=
 (h.as (F':=fun k=>genO (updG g e k.1 k.2)) (M':=fun k=>(updG g e k.1 k.2).isSome) (fun k hk=>by
  show _ = genO (updG g e k.1 k.2)
  unfold updG
  rw [if_neg (fun hh=>by have:=hk.2.2.1; omega)]) (fun k hk=>by
  show _ = (updG g e k.1 k.2).isSome
  unfold updG
  rw [if_neg (fun hh=>by have:=hk.2.2.1; omega)])).mono (Nat.le_succ n)
theorem zGt (h : WAt w wb bc bg t s so d N n f g) (hf : e.Fit) (c1 : 0 ≤ e.who) (c2 : e.who < t) (c3 : 0 ≤ e.cell) (c4 : e.cell < 2 * N + 2 * t) (hn : n < 100000) :
  Calls Tryz.prog 58 #[pt wb,e.v] w fun r w'=>r = .returned (.tuple #[]) ∧ WAt w' wb bc bg t s so d N (n + 1) (updF f e) (updG g e) ∧ Keep (fun k=>k = bc ∨ k = bg) w w':=by
 have hlay:=h.lay
 have HLA:=zI2 hlay
 have n1:=hlay.n1
 have n2:=hlay.n2
 have t1:=hlay.t1
 have t2:=hlay.t2
 have hb0:=zAB (Below.refl w.heap.size w) (e.obj 101)
 have HK0 : Hid (Keep (fun k=>k = bc ∨ k = bg) w (w.alloc (e.obj 101))):=zI2 (Keep.of_below hb0)
 have HO : Hid (IsObj (w.alloc (e.obj 101)) w.heap.size [i64 e.who,i64 e.op,i64 e.cell,u64 e.old,u64 e.new,.bool e.ok]):=zI2 (IsObj.made w [i64 e.who,i64 e.op,i64 e.cell,u64 e.old,u64 e.new,.bool e.ok] 101)
 have lc : bc < w.heap.size:=by obtain ⟨M,hm⟩:=h.cells; exact hm.lt
 have lg : bg < w.heap.size:=h.gens.lt
 have lw : wb < w.heap.size:=h.obj.lt
 have ncg:=h.cg
 have nwc:=h.wc
 have nwg:=h.wg
 obtain ⟨MC,hmc⟩:=(h.later hb0).cells
 have HMC:=zI2 hmc
 have HGM:=zI2 (h.later hb0).gens
 have HWO:=zI2 (h.later hb0).obj
 have HFIT:=zI2 (zHq h.fit hf)
 have HFE:=zI2 hf
 have HWF:=zI2 (wf_u64 hf.n0 hf.n1)
 have HFC:=zI2 hf.c
 have HLO : Hid (e.cell < N → lookOk N (e.who,e.cell)):=zI2 (fun hh=>⟨zCF c1 (by omega),c3,hh,n2⟩)
 have hgen : (Lit.int .i64 (e.old / 8 % 8192)).wf = true:=WalkArith.wf_i64 (by omega)
 have HGEN:=zI2 hgen
 clear h hb0 hf hlay hmc hgen
 go_enter Tryz.func58,Tryz.ntmps58
 go_wp2_with fail
 generalize w.alloc (e.obj 101) = w1 at HO HMC HGM HWO HK0 ⊢
 generalize w.heap.size = eb at HO lc lg lw ⊢
 obtain ⟨e0,e1,e2,e3,e4,e5⟩ : _ ∧ _ ∧ _ ∧ _ ∧ _ ∧ _:=⟨HO.out.at' 0 _ rfl,HO.out.at' 1 _ rfl,HO.out.at' 2 _ rfl,HO.out.at' 3 _ rfl,HO.out.at' 4 _ rfl,HO.out.at' 5 _ rfl⟩
 have q4:=HWO.out.at' 4 _ rfl
 refine zAF ((fun w'=>w'.cell? ⟨wb,4,none⟩ = some (.map (some bc)) ∧ w'.cell? ⟨eb,2,none⟩ = some (i64 e.cell) ∧ w'.cell? ⟨eb,4,none⟩ = some (u64 e.new))) ((0,true) :: (1,true) :: (2,true) :: (3,true) :: (4,true) :: (5,true) :: (6,true) :: (7,true) :: (8,false) :: []) (by kernel_rfl) (by kernel_rfl) (by kernel_rfl) (by decide) (fun _ _ _ _ _ h=>h) (⟨q4,e2,e4⟩) ?_
 repeat ((first | (refine zAC (v := ?_) rfl ?_ ?_ ?_; rotate_left 1; rfl; focus (rintro wS ⟨x1,x2,x3⟩; go_simp <;> with_reducible rfl)) | (refine zAD rfl ?_ ?_; rfl)); try simp only [Act.put,qset])
 refine zAG rfl (fun K hK=>?_)
 refine zCk rfl _ _ _ _ rfl zBE rfl HMC.out.drew (by unfold maxLen; omega) e.cell e.new rfl rfl HFC.out HWF.out (updF f e) (fun z=>decide (z = e.cell) || MC z) (by unfold updF; rw [if_pos rfl]) (by simp) (fun z hz=>by unfold updF; rw [if_neg (fun h=>hz h.symm)]) (fun z hz=>by simp [hz]) (fun w2 hM2 hG2=>?_)
 have hK2 : Keep (fun k=>k = bc) w1 w2:=(Keep.refl _ w1).drew.trans (Keep.of_grown hG2 (fun k h=>(Option.some.inj h).symm))
 have HO2:=zI2 (HO.out.keep hK2 (by omega))
 have HWO2:=zI2 (HWO.out.keep hK2 (by omega))
 have HGM2 : Hid (GMap N w2 bg n g):=zI2 (HGM.out.keep hK2 (by omega))
 have HK2:=zI2 (HK0.out.trans (hK2.mono (fun k h=>.inl h)))
 have HM2:=zI2 hM2
 clear hM2 hG2 hK2 HMC HGM HO HWO HK0 e0 e1 e2 e3 e4 e5 q4
 obtain ⟨e0,e1,e2,e3,e4,e5⟩ : _ ∧ _ ∧ _ ∧ _ ∧ _ ∧ _:=⟨HO2.out.at' 0 _ rfl,HO2.out.at' 1 _ rfl,HO2.out.at' 2 _ rfl,HO2.out.at' 3 _ rfl,HO2.out.at' 4 _ rfl,HO2.out.at' 5 _ rfl⟩
 obtain ⟨q0,q1,q2,q3,q4,q5⟩ : _ ∧ _ ∧ _ ∧ _ ∧ _ ∧ _:=⟨HWO2.out.at' 0 _ rfl,HWO2.out.at' 1 _ rfl,HWO2.out.at' 2 _ rfl,HWO2.out.at' 3 _ rfl,HWO2.out.at' 4 _ rfl,HWO2.out.at' 5 _ rfl⟩
 refine hK.out _ _ ⟨q4,e2,e4⟩ (fun _=>?_)
 (try simp only [Act.put])
 clear hK K
 refine zAI ?_
 rcases (by omega : e.cell < N ∨ N ≤ e.cell) with hcn | hcn
 ·have HKK : Hid (KindC t N e.cell 1 e.cell):=.inr (.inl ⟨c3,hcn,rfl,rfl⟩)
  have HLO2:=zI2 (HLO.out hcn)
  clear HLO
  by_cases hop : e.op = 0
  ·have z0 : (e.op == 0) = true:=by simp [hop]
   have HOP:=zI2 hop
   clear hop
   go_wp2_with fail
   refine zAJ ((0,true) :: (1,true) :: (2,true) :: (3,true) :: (4,true) :: (5,true) :: (6,false) :: (7,true) :: (8,true) :: (9,true) :: (10,true) :: (11,true) :: []) (by kernel_rfl) (by kernel_rfl) (by kernel_rfl) (by decide) (fun _ _ _ _ _ h=>h) (fun hHeld=>?_)
   repeat (first
    | (refine zAC (v := ?_) rfl ?_ ?_ ?_; rotate_left 1; rfl; (focus (intro wS hSw; have hk:=zAE hSw; go_simp; first | done | with_reducible rfl)); (try simp only [Act.put,qset]))
    | (refine zAD rfl ?_ ?_; rfl; (try simp only [Act.put,qset]))
    | (refine zAG rfl (fun K hK=>?_); go_simp; (try (first | (go_at_call 85; refine (zAt t s so d N e.cell 1 e.cell _ HLA.out HKK.out).mono ?_; rintro e w' ⟨rfl,hb'⟩))); (try go_wp2_with fail); refine hK.out _ _ ?_ ?_; (focus (first | exact zAA hHeld hb' | exact zAB hHeld _ | exact hHeld)); (try clear hb'); clear hHeld hK K; intro hHeld; (try simp only [Act.put,qset])))
   first | refine zAI ?_ | skip
   have HO3:=zI2 (HO2.out.later hHeld)
   have HWO3:=zI2 (HWO2.out.later hHeld)
   have HM3:=zI2 (HM2.out.later hHeld)
   have HGM3 : Hid (GMap N _ bg n g):=zI2 (HGM2.out.later hHeld)
   have HK3:=zI2 (HK2.out.trans (Keep.of_below hHeld))
   clear hHeld HO2 HWO2 HM2 HGM2 HK2 e0 e1 e2 e3 e4 e5 q0 q1 q2 q3 q4 q5
   obtain ⟨e0,e1,e2,e3,e4,e5⟩ : _ ∧ _ ∧ _ ∧ _ ∧ _ ∧ _:=⟨HO3.out.at' 0 _ rfl,HO3.out.at' 1 _ rfl,HO3.out.at' 2 _ rfl,HO3.out.at' 3 _ rfl,HO3.out.at' 4 _ rfl,HO3.out.at' 5 _ rfl⟩
   have q5:=HWO3.out.at' 5 _ rfl
   go_wp2_with fail
   refine zAF ((fun w'=>w'.cell? ⟨wb,5,none⟩ = some (.map (some bg)) ∧ w'.cell? ⟨eb,0,none⟩ = some (i64 e.who) ∧ w'.cell? ⟨eb,3,none⟩ = some (u64 e.old))) ((0,true) :: (1,true) :: (2,true) :: (3,true) :: (4,true) :: (5,true) :: (6,true) :: (7,true) :: (8,true) :: (9,true) :: (10,false) :: (11,true) :: (12,false) :: []) (by kernel_rfl) (by kernel_rfl) (by kernel_rfl) (by decide) (fun _ _ _ _ _ h=>h) (⟨q5,e0,e3⟩) ?_
   repeat ((first | (refine zAC (v := ?_) rfl ?_ ?_ ?_; rotate_left 1; rfl; focus (rintro wS ⟨x1,x2,x3⟩; go_simp <;> with_reducible rfl)) | (refine zAD rfl ?_ ?_; rfl)); try simp only [Act.put,qset])
   refine zAG rfl (fun K hK=>?_)
   go_simp
   go_at_call 64
   refine (zAN e.old _ HFE.out.o0 HFE.out.o1).mono ?_
   rintro r w4 ⟨rfl,hb4⟩
   (try go_wp2_with fail)
   have HO4:=zI2 (HO3.out.drew.later hb4)
   have HWO4:=zI2 (HWO3.out.drew.later hb4)
   have HM4:=zI2 (HM3.out.drew.later hb4)
   have HGM4 : Hid (GMap N w4 bg n g):=zI2 (HGM3.out.drew.later hb4)
   have HK4:=zI2 (HK3.out.trans (Keep.of_below (zAA (Below.refl _ _).drew hb4)))
   clear hb4 HO3 HWO3 HM3 HGM3 HK3 e0 e1 e2 e3 e4 e5 q5
   have e0:=HO4.out.at' 0 _ rfl
   have e3:=HO4.out.at' 3 _ rfl
   have q5:=HWO4.out.at' 5 _ rfl
   refine hK.out _ _ ⟨q5,e0,e3⟩ (fun _=>?_)
   (try simp only [Act.put,qset])
   clear hK K
   repeat ((first | (refine zAC (v := ?_) rfl ?_ ?_ ?_; rotate_left 1; rfl; focus (rintro wS ⟨x1,x2,x3⟩; go_simp <;> with_reducible rfl)) | (refine zAD rfl ?_ ?_; rfl)); try simp only [Act.put,qset])
   refine zAG rfl (fun K hK=>?_)
   refine zCk rfl _ _ _ _ rfl (zCj N) rfl HGM4.out (by unfold maxLen; omega) (e.who,e.cell) (e.old / 8 % 8192) rfl rfl HLO2.out HGEN.out (fun k=>genO (updG g e k.1 k.2)) (fun k=>(updG g e k.1 k.2).isSome)
    (by show genO (updG g e e.who e.cell) = _; unfold updG; rw [if_pos ⟨rfl,rfl,HOP.out⟩]; rfl) (by show (updG g e e.who e.cell).isSome = _; unfold updG; rw [if_pos ⟨rfl,rfl,HOP.out⟩]; rfl)
    (fun z hz=>by show genO (updG g e z.1 z.2) = _; unfold updG; rw [if_neg (fun hh=>hz (Prod.ext hh.1.symm hh.2.1.symm))]) (fun z hz=>by show (updG g e z.1 z.2).isSome = _; unfold updG; rw [if_neg (fun hh=>hz (Prod.ext hh.1.symm hh.2.1.symm))]) (fun w5 hM5 hG5=>?_)
   have hK5 : Keep (fun k=>k = bg) w4 w5:=Keep.of_grown hG5 (fun k h=>(Option.some.inj h).symm)
   have HO5:=zI2 (HO4.out.keep hK5 (by omega))
   have HWO5:=zI2 (HWO4.out.keep hK5 (by omega))
   have HM5:=zI2 (HM4.out.keep hK5 (by omega))
   have HGM5:=zI2 hM5
   have HK5:=zI2 (HK4.out.trans (hK5.mono (fun k h=>.inr h)))
   clear hM5 hG5 hK5 HO4 HWO4 HM4 HGM4 HK4 e0 e3 q5
   refine hK.out _ _ ⟨HWO5.out.at' 5 _ rfl,HO5.out.at' 0 _ rfl,HO5.out.at' 3 _ rfl⟩ (fun _=>?_)
   (try simp only [Act.put])
   clear hK K
   refine zAI ?_
   go_wp2_with fail
   go_end0
   exact ⟨rfl,⟨HLA.out,HWO5.out,⟨_,HM5.out⟩,HGM5.out,HFIT.out,by omega,nwc,nwg,ncg⟩,HK5.out⟩
  ·have z0 : (e.op == 0) = false:=beq_false_of_ne hop
   have HOP:=zI2 hop
   clear hop
   go_wp2_with fail
   refine zAJ ((0,true) :: (1,true) :: (2,true) :: (3,true) :: (4,true) :: (5,true) :: (6,false) :: (7,true) :: (8,true) :: (9,true) :: (10,true) :: (11,true) :: []) (by kernel_rfl) (by kernel_rfl) (by kernel_rfl) (by decide) (fun _ _ _ _ _ h=>h) (fun hHeld=>?_)
   repeat (first
    | (refine zAC (v := ?_) rfl ?_ ?_ ?_; rotate_left 1; rfl; (focus (intro wS hSw; have hk:=zAE hSw; go_simp; first | done | with_reducible rfl)); (try simp only [Act.put,qset]))
    | (refine zAD rfl ?_ ?_; rfl; (try simp only [Act.put,qset]))
    | (refine zAG rfl (fun K hK=>?_); go_simp; (try (first | (go_at_call 85; refine (zAt t s so d N e.cell 1 e.cell _ HLA.out HKK.out).mono ?_; rintro e w' ⟨rfl,hb'⟩))); (try go_wp2_with fail); refine hK.out _ _ ?_ ?_; (focus (first | exact zAA hHeld hb' | exact zAB hHeld _ | exact hHeld)); (try clear hb'); clear hHeld hK K; intro hHeld; (try simp only [Act.put,qset])))
   first | refine zAI ?_ | skip
   have HO3:=zI2 (HO2.out.later hHeld)
   have HWO3:=zI2 (HWO2.out.later hHeld)
   have HM3:=zI2 (HM2.out.later hHeld)
   have HGM3 : Hid (GMap N _ bg n g):=zI2 (HGM2.out.later hHeld)
   have HK3:=zI2 (HK2.out.trans (Keep.of_below hHeld))
   clear hHeld HO2 HWO2 HM2 HGM2 HK2 e0 e1 e2 e3 e4 e5 q0 q1 q2 q3 q4 q5
   obtain ⟨e0,e1,e2,e3,e4,e5⟩ : _ ∧ _ ∧ _ ∧ _ ∧ _ ∧ _:=⟨HO3.out.at' 0 _ rfl,HO3.out.at' 1 _ rfl,HO3.out.at' 2 _ rfl,HO3.out.at' 3 _ rfl,HO3.out.at' 4 _ rfl,HO3.out.at' 5 _ rfl⟩
   go_wp2_with fail
   go_end0
   exact ⟨rfl,⟨HLA.out,HWO3.out,⟨_,HM3.out⟩,zD0 HGM3.out (.inr HOP.out),HFIT.out,by omega,nwc,nwg,ncg⟩,HK3.out⟩
 ·obtain ⟨kk,kx,hkk,hk1⟩ : ∃ kk kx,KindC t N e.cell kk kx ∧ kk ≠ 1:=by
   rcases (by omega : e.cell < 2 * N ∨ (2 * N ≤ e.cell ∧ e.cell < 2 * N + t) ∨ (2 * N + t ≤ e.cell)) with hq | hq | hq
   ·exact ⟨2,e.cell - N,.inr (.inr (.inl ⟨hcn,hq,rfl,rfl⟩)),by decide⟩
   ·exact ⟨3,e.cell - 2 * N,.inr (.inr (.inr (.inl ⟨hq.1,hq.2,rfl,rfl⟩))),by decide⟩
   ·exact ⟨4,e.cell - (2 * N + t),.inr (.inr (.inr (.inr ⟨hq,c4,rfl,rfl⟩))),by decide⟩
  have z0 : (kk == 1) = false:=beq_false_of_ne hk1
  have HKK:=zI2 hkk
  clear HLO hkk hk1
  go_wp2_with fail
  refine zAJ ((0,true) :: (1,true) :: (2,true) :: (3,true) :: (4,true) :: (5,true) :: (6,false) :: (7,true) :: (8,true) :: (9,true) :: (10,true) :: (11,true) :: []) (by kernel_rfl) (by kernel_rfl) (by kernel_rfl) (by decide) (fun _ _ _ _ _ h=>h) (fun hHeld=>?_)
  repeat (first
   | (refine zAC (v := ?_) rfl ?_ ?_ ?_; rotate_left 1; rfl; (focus (intro wS hSw; have hk:=zAE hSw; go_simp; first | done | with_reducible rfl)); (try simp only [Act.put,qset]))
   | (refine zAD rfl ?_ ?_; rfl; (try simp only [Act.put,qset]))
   | (refine zAG rfl (fun K hK=>?_); go_simp; (try (first | (go_at_call 85; refine (zAt t s so d N e.cell kk kx _ HLA.out HKK.out).mono ?_; rintro e w' ⟨rfl,hb'⟩))); (try go_wp2_with fail); refine hK.out _ _ ?_ ?_; (focus (first | exact zAA hHeld hb' | exact zAB hHeld _ | exact hHeld)); (try clear hb'); clear hHeld hK K; intro hHeld; (try simp only [Act.put,qset])))
  first | refine zAI ?_ | skip
  have HO3:=zI2 (HO2.out.later hHeld)
  have HWO3:=zI2 (HWO2.out.later hHeld)
  have HM3:=zI2 (HM2.out.later hHeld)
  have HGM3 : Hid (GMap N _ bg n g):=zI2 (HGM2.out.later hHeld)
  have HK3:=zI2 (HK2.out.trans (Keep.of_below hHeld))
  clear hHeld HO2 HWO2 HM2 HGM2 HK2 e0 e1 e2 e3 e4 e5 q0 q1 q2 q3 q4 q5
  obtain ⟨e0,e1,e2,e3,e4,e5⟩ : _ ∧ _ ∧ _ ∧ _ ∧ _ ∧ _:=⟨HO3.out.at' 0 _ rfl,HO3.out.at' 1 _ rfl,HO3.out.at' 2 _ rfl,HO3.out.at' 3 _ rfl,HO3.out.at' 4 _ rfl,HO3.out.at' 5 _ rfl⟩
  go_wp2_with fail
  go_end0
  exact ⟨rfl,⟨HLA.out,HWO3.out,⟨_,HM3.out⟩,zD0 HGM3.out (.inl hcn),HFIT.out,by omega,nwc,nwg,ncg⟩,HK3.out⟩
end
end
section
open Go.RowKit
section
variable {w : World} {t s so d : Int} {N n cap tb off : Nat} {A : Option Addr} {L : List Ev} {e : Ev}
end
end
section
open Go.RowKit
section
variable {w : World} {t s so d : Int} {N n cap tb off : Nat} {A : Option Addr} {L : List Ev} {e : Ev}
end
end
section
open Go.RowKit
section
variable {w : World} {t s so d : Int} {N n cap tb off : Nat} {A : Option Addr} {L : List Ev} {e : Ev}
end
end
section
open Go.RowKit
section
variable {w : World} {t s so d : Int} {N n cap tb off : Nat} {A : Option Addr} {L : List Ev} {e : Ev}
end
end
section
open Go.RowKit
section
variable {w : World} {t s so d : Int} {N n cap tb off : Nat} {A : Option Addr} {L : List Ev} {e : Ev}
end
end
section
open Go.RowKit
section
variable {w : World} {t s so d : Int} {N n cap tb off : Nat} {A : Option Addr} {L : List Ev} {e : Ev}
end
end
section
open Go.RowKit
section
variable {w : World} {t s so d : Int} {N n cap tb off : Nat} {A : Option Addr} {L : List Ev} {e : Ev}
end
def FirstIs (t s so : Int) (N : Nat) (L : List Ev) (r : Int) : Prop :=
 (r = -1 ∧ AllMay t s so N L) ∨ ∃ (i : Nat) (e : Ev),r = (i : Int) ∧ L[i]? = some e ∧ AllMay t s so N (L.take i) ∧ ¬ May t s so N (L.take i) e
end
section
open Go.RowKit
open Go.RowKit Go.Maps
section
variable {w w' : World} {wb bc bg : Nat} {t s so d : Int} {N n : Nat}
abbrev WBeh (w : World) (wb bc bg : Nat) (t s so d : Int) (N : Nat) (L : List Ev) (i : Nat) : Prop:=WAt w wb bc bg t s so d N i (lastE (L.take i)) (loadE (L.take i))
theorem zGq {L : List Ev} {i : Nat} {e : Ev} (he : L[i]? = some e) : updF (lastE (L.take i)) e = lastE (L.take (i + 1)):=by
 rw [List.take_add_one,he]
 funext c
 exact (zCw _ _ _).symm
theorem zF1 {L : List Ev} {i : Nat} {e : Ev} (he : L[i]? = some e) : updG (loadE (L.take i)) e = loadE (L.take (i + 1)):=by
 rw [List.take_add_one,he]
 funext who c
 exact (zB5 _ _ _ _).symm
abbrev wFirst (w : World) (t s so d : Int) : World:=(((w.alloc (.cells #[i64 t,i64 s,i64 so,i64 d] 24)).alloc (.map #[] 0)).alloc (.map #[] 0)).alloc (.cells #[i64 t,i64 s,i64 so,i64 d,.map (some (w.heap.size + 1)),.map (some (w.heap.size + 1 + 1))] 115)
theorem zFy (hl : Lay t s N) (L : List Ev) : WBeh (wFirst w t s so d) (w.heap.size + 1 + 1 + 1) (w.heap.size + 1) (w.heap.size + 1 + 1) t s so d N L 0 ∧ Below w.heap.size w (wFirst w t s so d):=by
 obtain ⟨w1,h1⟩ : ∃ w1,w.alloc (.cells #[i64 t,i64 s,i64 so,i64 d] 24) = w1:=⟨_,rfl⟩
 have s1 : w1.heap.size = w.heap.size + 1:=by rw [← h1]; simp
 have b1 : Below w.heap.size w w1:=by rw [← h1]; exact zAB (Below.refl _ _) _
 obtain ⟨w2,h2⟩ : ∃ w2,w1.alloc (.map #[] 0) = w2:=⟨_,rfl⟩
 have s2 : w2.heap.size = w.heap.size + 1 + 1:=by rw [← h2]; simp [s1]
 have m1 : CMap w2 (w.heap.size + 1) 0 (fun _=>0):=⟨_,by rw [← h2, ← s1]; exact KMap.made w1 _ _ _ _ _ _⟩
 have b2 : Below w1.heap.size w1 w2:=by rw [← h2]; exact zAB (Below.refl _ _) _
 obtain ⟨w3,h3⟩ : ∃ w3,w2.alloc (.map #[] 0) = w3:=⟨_,rfl⟩
 have s3 : w3.heap.size = w.heap.size + 1 + 1 + 1:=by rw [← h3]; simp [s2]
 have m2 : GMap N w3 (w.heap.size + 1 + 1) 0 (fun _ _=>none):=by rw [← h3, ← s2]; exact KMap.made w2 _ _ _ _ _ _
 have b3 : Below w2.heap.size w2 w3:=by rw [← h3]; exact zAB (Below.refl _ _) _
 have b4:=zAB (Below.refl w3.heap.size w3) (.cells #[i64 t,i64 s,i64 so,i64 d,.map (some (w.heap.size + 1)),.map (some (w.heap.size + 1 + 1))] 115)
 have o4:=IsObj.made w3 [i64 t,i64 s,i64 so,i64 d,.map (some (w.heap.size + 1)),.map (some (w.heap.size + 1 + 1))] 115
 rw [s3] at o4
 unfold wFirst
 rw [h1,h2,h3]
 refine ⟨⟨hl,o4, ?_, ?_,fun c=>by rw [List.take_zero]; exact ⟨Int.le_refl _,by show (0 : Int) ≤ _; decide⟩,by omega,by omega,by omega,by omega⟩,zAA (zAA (zAA b1 b2) b3) b4⟩
 ·obtain ⟨M,hm⟩:=m1
  exact ⟨M,(hm.later b3).later b4⟩
 ·exact m2.later b4
end
theorem zBW {t s so d : Int} {N : Nat} (w : World) (A : Option Addr) (n cap tb off : Nat) (L : List Ev) (r0 : Int) (hl : Lay t s N) (hL : IsEvs w A n cap tb off L) (hn : n ≤ 100000) (hr : FirstIs t s so N L r0) :
  Calls Tryz.prog 25 #[cf t s so d,.slice A n cap] w fun r w'=>r = .returned (.int .i64 r0) ∧ Below w.heap.size w w':=by
 have HLY:=zI2 hl
 have hlen:=hL.1
 have hcap:=hL.2.1
 have HN:=zI2 hlen
 have HR:=zI2 hr
 have HL:=zI2 hL
 clear hl hL hlen hr
 have hwf:=zFy (w:=w) (so:=so) (d:=d) HLY.out L
 have HW0:=zI2 hwf.1
 have HB0:=zI2 hwf.2
 clear hwf
 have hmm := @run_makeMap Tryz.prog
 go_enter Tryz.func25,Tryz.ntmps25
 go_wp2_with fail
 change Code.wp _ _ _ _ (wFirst w t s so d)
 generalize wFirst w t s so d = w0 at HW0 HB0 ⊢
 generalize hbc : w.heap.size + 1 = bc at HW0 ⊢
 generalize hbg : bc + 1 = bg at HW0 ⊢
 generalize hwb : bg + 1 = wb at HW0 ⊢
 have lc : w.heap.size ≤ bc:=by omega
 have lg : w.heap.size ≤ bg:=by omega
 clear hbc hbg hwb hmm
 go_loopw [14] (fun iw wr => ∃ i : Nat,i ≤ n ∧ iw = .int .i64 i ∧ Hid (Below w.heap.size w wr) ∧ Hid (WBeh wr wb bc bg t s so d N L i) ∧ Hid (AllMay t s so N (L.take i))) (fun iw _=>n - (RowKit.intOf iw).toNat)
 case atStart=>exact ⟨0,Nat.zero_le _,rfl,HB0,HW0,by show AllMay _ _ _ _ _; rw [List.take_zero]; exact AllMay.nil _ _ _ _⟩
 case round =>
  clear HB0 HW0
  obtain ⟨i,hi,rfl,HB,HW,HA⟩:=hrel
  rcases Nat.lt_or_ge i n with hil | hil
  ·have hil' : (i : Int) < (n : Int):=by omega
   have hic' : (i : Int) ≤ (cap : Int):=by omega
   obtain ⟨e,he⟩ : ∃ e,L[i]? = some e:=⟨_,List.getElem?_eq_getElem (by rw [HN.out]; exact hil)⟩
   have HE:=zI2 he
   have hLr:=HL.out.later HB.out
   obtain ⟨⟨c0,c1,c2,c3,c4,c5⟩,hfe⟩:=hLr.2.2.2 i e he
   obtain ⟨rfl,htb⟩:=hLr.2.2.1 (by omega)
   have hb2:=zAB (Below.refl wr.heap.size wr) (e.obj 101)
   have HB2:=zI2 (zAA HB.out hb2)
   have HW2 : Hid (WBeh (wr.alloc (e.obj 101)) wb bc bg t s so d N L i):=zI2 (HW.out.later hb2)
   have HO2:=zI2 (IsObj.made wr [i64 e.who,i64 e.op,i64 e.cell,u64 e.old,u64 e.new,.bool e.ok] 101)
   have HFE:=zI2 hfe
   have hcp0 : ¬ cap = 0:=by omega
   clear he hb2 hLr HB HW hfe
   by_cases hm : May t s so N (L.take i) e
   ·have hok:=hm
    obtain ⟨m1,m2,m3,m4, -, -⟩:=hok
    have HM:=zI2 hm
    have HA2 : Hid (AllMay t s so N (L.take (i + 1))):=zI2 (by rw [List.take_add_one,HE.out]; exact HA.out.snoc hm)
    clear hm
    go_wp2_with fail
    clear c0 c1 c2 c3 c4 c5 htb
    generalize wr.alloc (e.obj 101) = w2 at HB2 HW2 HO2 ⊢
    generalize wr.heap.size = eb at HO2 ⊢
    refine (zEl HW2.out HFE.out true ⟨fun _=>HM.out,fun _=>rfl⟩).mono ?_
    rintro r w3 ⟨rfl,hb3⟩
    have HB3:=zI2 (zAA HB2.out hb3)
    have HW3 : Hid (WBeh w3 wb bc bg t s so d N L i):=zI2 (HW2.out.later hb3)
    have HO3:=zI2 (HO2.out.later hb3)
    clear hb3 HB2 HW2 HO2
    obtain ⟨e0,e1,e2,e3,e4,e5⟩ : _ ∧ _ ∧ _ ∧ _ ∧ _ ∧ _:=⟨HO3.out.at' 0 _ rfl,HO3.out.at' 1 _ rfl,HO3.out.at' 2 _ rfl,HO3.out.at' 3 _ rfl,HO3.out.at' 4 _ rfl,HO3.out.at' 5 _ rfl⟩
    go_wp2_with fail
    refine (zGt HW3.out HFE.out m1 m2 m3 m4 (by omega)).mono ?_
    rintro r w4 ⟨rfl,hw4,hk4⟩
    rw [zGq HE.out,zF1 HE.out] at hw4
    have HW4 : Hid (WBeh w4 wb bc bg t s so d N L (i + 1)):=zI2 hw4
    have HB4:=zI2 (zAf HB3.out hk4 HB3.out.size (fun k hk=>by omega))
    clear hw4 hk4 HB3 HW3 HO3 e0 e1 e2 e3 e4 e5
    go_wp2_with fail
    go_roundw
    case rel=>exact ⟨i + 1,by omega,by go_num,HB4,HW4,HA2⟩
    case measure=>first | omega | (simp [RowKit.intOf]; done) | (simp [RowKit.intOf]; omega)
   ·have HM:=zI2 hm
    have HV : Hid (r0 = (i : Int)):=zI2 (by
     rcases HR.out with ⟨_,ha⟩ | ⟨j,e',rfl,hj,ha,hnm⟩
     ·exact absurd (ha i e HE.out) hm
     ·rcases (by omega : i < j ∨ i = j ∨ j < i) with hq | hq | hq
      ·have h1 : (L.take j)[i]? = some e:=by rw [List.getElem?_take_of_lt hq]; exact HE.out
       have h2:=ha i e h1
       rw [List.take_take,Nat.min_eq_left (by omega)] at h2
       exact absurd h2 hm
      ·rw [hq]
      ·have h1 : (L.take i)[j]? = some e':=by rw [List.getElem?_take_of_lt hq]; exact hj
       have h2:=HA.out j e' h1
       rw [List.take_take,Nat.min_eq_left (by omega)] at h2
       exact absurd h2 hnm)
    clear hm
    go_wp2_with fail
    clear c0 c1 c2 c3 c4 c5 htb
    generalize wr.alloc (e.obj 101) = w2 at HB2 HW2 HO2 ⊢
    generalize wr.heap.size = eb at HO2 ⊢
    refine (zEl HW2.out HFE.out false ⟨(fun h=>by cases h),fun h=>absurd h HM.out⟩).mono ?_
    rintro r w3 ⟨rfl,hb3⟩
    have HB3:=zI2 (zAA HB2.out hb3)
    clear hb3 HB2 HW2 HO2
    go_wp2_with fail
    go_ret
    exact ⟨by rw [HV.out]; rfl,HB3.out⟩
  ·obtain rfl : i = n:=by omega
   have hnn : ¬ (i : Int) < (i : Int):=by omega
   have HV : Hid (r0 = -1):=zI2 (by
    rcases HR.out with ⟨h1,_⟩ | ⟨j,e',rfl,hj,ha,hnm⟩
    ·exact h1
    ·have hji : j < i:=by have:=(List.getElem?_eq_some_iff.1 hj).1; have:=HN.out; omega
     have h1 : (L.take i)[j]? = some e':=by rw [List.getElem?_take_of_lt hji]; exact hj
     have h2:=HA.out j e' h1
     rw [List.take_take,Nat.min_eq_left (by omega)] at h2
     exact absurd h2 hnm)
   go_wp2_with fail
   go_ret
   exact ⟨by rw [HV.out]; rfl,HB.out⟩
end
section
open Go.RowKit
attribute [local go_sem ↓] fld0
theorem zCZ (st : Int) (C : List Int) (i : Nat) : stN st C (i + 1) = stN st C i + if C.getD i 0 % 4 = st then 1 else 0:=by
 unfold stN
 rw [cntN]
 simp only [decide_eq_true_eq]
theorem zCR (w : World) (g N cap : Nat) (C : List Int) (h : ∀ i,i < N → w.cell? ⟨g,i,none⟩ = some (u64 (C.getD i 0))) (hf : ∀ j,0 ≤ C.getD j 0 ∧ C.getD j 0 ≤ 18446744073709551615) (hN : N ≤ 5000) (hc : N ≤ cap) :
  Calls Tryz.prog 29 #[.slice (some ⟨g,0,none⟩) N cap] w fun r w'=>r = .returned (.tuple #[i64 (stN 0 C N),i64 (stN 1 C N),i64 (stN 2 C N)]) ∧ Below w.heap.size w w':=by
 have HC:=zI2 h
 have HF:=zI2 hf
 clear h hf
 go_enter Tryz.func29,Tryz.ntmps29
 go_wp2_with fail
 go_loopw [5,6,7,12] (fun fv lv gv iw wr => ∃ i a b c : Nat,i ≤ N ∧ a ≤ i ∧ b ≤ i ∧ c ≤ i ∧ fv = .int .i64 a ∧ lv = .int .i64 b ∧ gv = .int .i64 c ∧ iw = .int .i64 i ∧ Hid (stN 0 C i = a ∧ stN 1 C i = b ∧ stN 2 C i = c) ∧ Hid (Below w.heap.size w wr)) (fun _ _ _ iw _=>N - (RowKit.intOf iw).toNat)
 case atStart=>exact ⟨0,0,0,0,Nat.zero_le _,Nat.le_refl _,Nat.le_refl _,Nat.le_refl _,rfl,rfl,rfl,rfl,⟨rfl,rfl,rfl⟩,Below.refl _ _⟩
 case round =>
  obtain ⟨i,a,b,c,hi,ha,hb,hc2,rfl,rfl,rfl,rfl,HS,HB⟩:=hrel
  rcases Nat.lt_or_ge i N with hil | hil
  ·have hil' : (i : Int) < (N : Int):=by omega
   have hcell:=HC.out i hil
   have hgl : g < w.heap.size:=World.block_lt_of_cell? w _ hcell
   have hcell2:=(HB.out.cell (p:=⟨g,i,none⟩) hgl).trans hcell
   obtain ⟨x,hx⟩ : ∃ x,C.getD i 0 = x:=⟨_,rfl⟩
   have hxf:=HF.out i
   rw [hx] at hcell2 hxf
   obtain ⟨x0,x1⟩:=hxf
   have s0:=zCZ 0 C i
   have s1:=zCZ 1 C i
   have s2:=zCZ 2 C i
   rw [hx,HS.out.1] at s0
   rw [hx,HS.out.2.1] at s1
   rw [hx,HS.out.2.2] at s2
   clear hcell hx HS
   obtain ⟨st,hst⟩ : ∃ st,x % 4 = st:=⟨_,rfl⟩
   rw [hst] at s0 s1 s2
   have HST:=zI2 hst
   rcases (by omega : st = 0 ∨ st = 1 ∨ st = 2 ∨ st = 3) with hq | hq | hq | hq
   ·rw [if_pos hq] at s0
    rw [if_neg (by omega)] at s1 s2
    have HS2 : Hid (stN 0 C (i + 1) = a + 1 ∧ stN 1 C (i + 1) = b ∧ stN 2 C (i + 1) = c):=zI2 ⟨s0,s1,s2⟩
    have HQ:=zI2 hq
    clear s0 s1 s2 hst hq
    go_wp2_with fail
    refine (zAN x _ x0 x1).mono ?_
    rintro r w1 ⟨rfl,hb1⟩
    rw [HST.out,HQ.out]
    have HB1:=zI2 (zAA HB.out hb1)
    clear hb1 HB hcell2
    go_wp2_with fail
    go_roundw
    case rel=>exact ⟨i + 1,a + 1,b,c,by omega,by omega,by omega,by omega,by go_num,rfl,rfl,by go_num,HS2,HB1⟩
    case measure=>first | omega | (simp [RowKit.intOf]; done) | (simp [RowKit.intOf]; omega)
   ·rw [if_pos hq] at s1
    rw [if_neg (by omega)] at s0 s2
    have HS2 : Hid (stN 0 C (i + 1) = a ∧ stN 1 C (i + 1) = b + 1 ∧ stN 2 C (i + 1) = c):=zI2 ⟨s0,s1,s2⟩
    have HQ:=zI2 hq
    clear s0 s1 s2 hst hq
    go_wp2_with fail
    refine (zAN x _ x0 x1).mono ?_
    rintro r w1 ⟨rfl,hb1⟩
    rw [HST.out,HQ.out]
    have HB1:=zI2 (zAA HB.out hb1)
    clear hb1 HB hcell2
    go_wp2_with fail
    go_roundw
    case rel=>exact ⟨i + 1,a,b + 1,c,by omega,by omega,by omega,by omega,rfl,by go_num,rfl,by go_num,HS2,HB1⟩
    case measure=>first | omega | (simp [RowKit.intOf]; done) | (simp [RowKit.intOf]; omega)
   ·rw [if_pos hq] at s2
    rw [if_neg (by omega)] at s0 s1
    have HS2 : Hid (stN 0 C (i + 1) = a ∧ stN 1 C (i + 1) = b ∧ stN 2 C (i + 1) = c + 1):=zI2 ⟨s0,s1,s2⟩
    have HQ:=zI2 hq
    clear s0 s1 s2 hst hq
    go_wp2_with fail
    refine (zAN x _ x0 x1).mono ?_
    rintro r w1 ⟨rfl,hb1⟩
    rw [HST.out,HQ.out]
    have HB1:=zI2 (zAA HB.out hb1)
    clear hb1 HB hcell2
    go_wp2_with fail
    go_roundw
    case rel=>exact ⟨i + 1,a,b,c + 1,by omega,by omega,by omega,by omega,rfl,rfl,by go_num,by go_num,HS2,HB1⟩
    case measure=>first | omega | (simp [RowKit.intOf]; done) | (simp [RowKit.intOf]; omega)
   ·rw [if_neg (by omega)] at s0 s1 s2
    have HS2 : Hid (stN 0 C (i + 1) = a ∧ stN 1 C (i + 1) = b ∧ stN 2 C (i + 1) = c):=zI2 ⟨s0,s1,s2⟩
    have HQ:=zI2 hq
    clear s0 s1 s2 hst hq
    go_wp2_with fail
    refine (zAN x _ x0 x1).mono ?_
    rintro r w1 ⟨rfl,hb1⟩
    rw [HST.out,HQ.out]
    have HB1:=zI2 (zAA HB.out hb1)
    clear hb1 HB hcell2
    go_wp2_with fail
    go_roundw
    case rel=>exact ⟨i + 1,a,b,c,by omega,by omega,by omega,by omega,rfl,rfl,rfl,by go_num,HS2,HB1⟩
    case measure=>first | omega | (simp [RowKit.intOf]; done) | (simp [RowKit.intOf]; omega)
  ·obtain rfl : i = N:=by omega
   have hnn : ¬ (i : Int) < (i : Int):=by omega
   go_wp2_with fail
   go_ret3
   exact ⟨by rw [HS.out.1,HS.out.2.1,HS.out.2.2]; rfl,HB.out⟩
end
end Go.Proofs.YtebgjfhaolgcjaaGreat
