/- Contracts and plain lemmas that these laws need. No condition. -/
import Derived.Deep.DeepCutAuto
import Derived.Test.YtebgjfhaolgcjaaGreatQLE1
import Derived.Test.YtebgjfhaolgcjaaGreatQLE11
namespace Go.Proofs.YtebgjfhaolgcjaaGreat
set_option linter.unusedVariables false
set_option maxHeartbeats 8000000
set_option maxRecDepth 100000
section
open Go.RowKit
theorem aset5 {W ww : World} {b : Nat} (hG : Below W.heap.size W ww) (hv : IsObj ww b [i64 0,i64 0,i64 0,i64 0,i64 0]) (hs : W.heap.size ≤ b) (u0 u1 u2 u3 u4 : Value) :
  Below W.heap.size W (((((ww.setCell ⟨b,0,none⟩ u0).setCell ⟨b,1,none⟩ u1).setCell ⟨b,2,none⟩ u2).setCell ⟨b,3,none⟩ u3).setCell ⟨b,4,none⟩ u4) ∧ IsObj (((((ww.setCell ⟨b,0,none⟩ u0).setCell ⟨b,1,none⟩ u1).setCell ⟨b,2,none⟩ u2).setCell ⟨b,3,none⟩ u3).setCell ⟨b,4,none⟩ u4) b [u0,u1,u2,u3,u4] ∧
   ∀ c ys,IsObj ww c ys → b ≠ c → IsObj (((((ww.setCell ⟨b,0,none⟩ u0).setCell ⟨b,1,none⟩ u1).setCell ⟨b,2,none⟩ u2).setCell ⟨b,3,none⟩ u3).setCell ⟨b,4,none⟩ u4) c ys :=
 ⟨zAH (zAH (zAH (zAH (zAH hG hs _) hs _) hs _) hs _) hs _,((((hv.set 0 u0).set 1 u1).set 2 u2).set 3 u3).set 4 u4,fun c ys h hn=>((((h.other 0 u0 hn).other 1 u1 hn).other 2 u2 hn).other 3 u3 hn).other 4 u4 hn⟩
section
variable {w : World} {wb bc bg : Nat} {t s so d : Int} {N n : Nat} {f : Int → Int} {g : Int → Int → Option Int} {e : Ev}
theorem zFs (h : WAt w wb bc bg t s so d N n f g) (hf : e.Fit) (c3 : 0 ≤ e.cell) (c6 : e.cell < N) (b : Bool) (hb : b = true ↔ MayW s e) :
  Calls Tryz.prog 86 #[pt wb,e.v,i64 e.cell] w fun r w'=>r = .returned (.bool b) ∧ Below w.heap.size w w':=by
 have hlay:=h.lay
 have HLA:=zI2 hlay
 have n1:=hlay.n1
 have n2:=hlay.n2
 have t1:=hlay.t1
 have t2:=hlay.t2
 have s1:=hlay.s1
 have s2:=hlay.s2
 have hb0:=zAB (Below.refl w.heap.size w) (e.obj 101)
 have HB0:=zI2 hb0
 have HO : Hid (IsObj (w.alloc (e.obj 101)) w.heap.size [i64 e.who,i64 e.op,i64 e.cell,u64 e.old,u64 e.new,.bool e.ok]):=zI2 (IsObj.made w [i64 e.who,i64 e.op,i64 e.cell,u64 e.old,u64 e.new,.bool e.ok] 101)
 have HW:=zI2 (h.later hb0)
 have HFE:=zI2 hf
 have hwb0:=(h.later hb0).obj.lt
 clear h hb0 hf hlay
 go_enter Tryz.func86,Tryz.ntmps86
 go_wp2_with fail
 generalize w.alloc (e.obj 101) = w1 at HO HW HB0 ⊢
 generalize w.heap.size = eb at HO ⊢
 obtain ⟨e0,e1,e2,e3,e4,e5⟩ : _ ∧ _ ∧ _ ∧ _ ∧ _ ∧ _:=⟨HO.out.at' 0 _ rfl,HO.out.at' 1 _ rfl,HO.out.at' 2 _ rfl,HO.out.at' 3 _ rfl,HO.out.at' 4 _ rfl,HO.out.at' 5 _ rfl⟩
 go_cut [7,8] (fun s7 s8 wx => ∃ bv bx,s7 = .pointer (some ⟨bv,0,none⟩) ∧ s8 = .pointer (some ⟨bx,0,none⟩) ∧ Hid (IsObj wx bv [i64 (e.old % 4),i64 (e.old / 4 % 2),i64 (e.old / 8 % 8192),i64 (e.old / 65536 % 16777216),i64 (e.old / 1099511627776)]) ∧ Hid (IsObj wx bx [i64 (e.new % 4),i64 (e.new / 4 % 2),i64 (e.new / 8 % 8192),i64 (e.new / 65536 % 16777216),i64 (e.new / 1099511627776)]) ∧ Hid (Below w1.heap.size w1 wx))
 case first =>
  refine zAa (fun w'=>Below w1.heap.size w1 w') (.take 0 (.take 1 (.take 3 (.take 4 (.three 2 (.three 5 (.two 6 (.one 7 (.one 8 (.one 9 .nil))) 7 (.one 6 (.one 8 (.one 9 .nil)))) 6 (.two 5 (.one 7 (.one 8 (.one 9 .nil))) 7 (.one 5 (.one 8 (.one 9 .nil)))) 7 (.two 5 (.one 6 (.one 8 (.one 9 .nil))) 6 (.one 5 (.one 8 (.one 9 .nil))))) 6 (.two 2 (.two 5 (.one 7 (.one 8 (.one 9 .nil))) 7 (.one 5 (.one 8 (.one 9 .nil)))) 7 (.one 2 (.one 5 (.one 8 (.one 9 .nil))))) 7 (.two 2 (.two 5 (.one 6 (.one 8 (.one 9 .nil))) 6 (.one 5 (.one 8 (.one 9 .nil)))) 6 (.one 2 (.one 5 (.one 8 (.one 9 .nil)))))))))) (by kernel_rfl) (by kernel_rfl) (by kernel_rfl) (by decide) (fun _ _ _ _ _ h=>h) (Below.refl _ _).drew ?_
  repeat (refine zAW (v := ?_) rfl ?_ ?_ ?_; rotate_left 1; rfl; (focus (intro wS hSw; have hk:=zAE hSw; go_simp; first | done | with_reducible rfl)); (try simp only [Act.put,qset]))
  have HG : Hid (Below w1.heap.size w1 w1.drew):=(Below.refl _ _).drew
  generalize w1.drew = ww0 at HG ⊢
  refine ⟨?_, ?_, ?_⟩
  ·refine runT rfl (fun K hK=>?_)
   go_simp
   go_at_call 64
   refine (zAN e.old _ HFE.out.o0 HFE.out.o1).mono ?_
   rintro r ww1 ⟨rfl,hb⟩
   (try go_wp2_with fail)
   replace HG:=zI2 (zAA HG.out hb)
   clear hb
   refine hK.out _ _ HG.out (fun _=>?_)
   (try simp only [Act.put,qset])
   clear hK K
   try clear ww0
   refine ⟨?_, ?_, ?_⟩
   ·refine runT rfl (fun K hK=>?_)
    go_simp
    go_at_call 64
    refine (zAN e.new _ HFE.out.n0 HFE.out.n1).mono ?_
    rintro r ww2 ⟨rfl,hb⟩
    (try go_wp2_with fail)
    replace HG:=zI2 (zAA HG.out hb)
    clear hb
    refine hK.out _ _ HG.out (fun _=>?_)
    (try simp only [Act.put,qset])
    clear hK K
    try clear ww1
    refine ⟨?_, ?_⟩
    ·refine runT rfl (fun K hK=>?_)
     go_simp
     have hb:=zAB (Below.refl ww2.heap.size ww2) (.cells #[i64 0,i64 0,i64 0,i64 0,i64 0] 122)
     have Hv : Hid (IsObj (ww2.alloc (.cells #[i64 0,i64 0,i64 0,i64 0,i64 0] 122)) ww2.heap.size [i64 0,i64 0,i64 0,i64 0,i64 0]):=IsObj.made ww2 [i64 0,i64 0,i64 0,i64 0,i64 0] 122
     have Hsv : Hid (w1.heap.size ≤ ww2.heap.size):=HG.out.size
     replace HG:=zI2 (zAA HG.out hb)
     clear hb
     generalize ww2.alloc (.cells #[i64 0,i64 0,i64 0,i64 0,i64 0] 122) = ww3 at HG Hv ⊢
     generalize ww2.heap.size = bv at Hv Hsv ⊢
     refine hK.out _ _ HG.out (fun _=>?_)
     (try simp only [Act.put,qset])
     clear hK K
     try clear ww2
     refine runT rfl (fun K hK=>?_)
     go_simp
     have hb:=zAB (Below.refl ww3.heap.size ww3) (.cells #[i64 0,i64 0,i64 0,i64 0,i64 0] 122)
     have Hx : Hid (IsObj (ww3.alloc (.cells #[i64 0,i64 0,i64 0,i64 0,i64 0] 122)) ww3.heap.size [i64 0,i64 0,i64 0,i64 0,i64 0]):=IsObj.made ww3 [i64 0,i64 0,i64 0,i64 0,i64 0] 122
     have Hnevx : Hid (bv ≠ ww3.heap.size):=by have:=Hv.out.lt; show _ ≠ _; omega
     replace Hv:=zI2 (Hv.out.later hb)
     have Hsx : Hid (w1.heap.size ≤ ww3.heap.size):=HG.out.size
     replace HG:=zI2 (zAA HG.out hb)
     clear hb
     generalize ww3.alloc (.cells #[i64 0,i64 0,i64 0,i64 0,i64 0] 122) = ww4 at HG Hx Hv ⊢
     generalize ww3.heap.size = bx at Hx Hsx Hnevx ⊢
     refine hK.out _ _ HG.out (fun _=>?_)
     (try simp only [Act.put,qset])
     clear hK K
     try clear ww3
     refine runT rfl (fun K hK=>?_)
     have q0:=Hv.out.at' 0 _ rfl
     have q1:=Hv.out.at' 1 _ rfl
     have q2:=Hv.out.at' 2 _ rfl
     have q3:=Hv.out.at' 3 _ rfl
     have q4:=Hv.out.at' 4 _ rfl
     have f0:=Hv.out.fz 0
     have f1:=Hv.out.fz 1
     have f2:=Hv.out.fz 2
     have f3:=Hv.out.fz 3
     have f4:=Hv.out.fz 4
     go_simp
     clear q0 q1 q2 q3 q4 f0 f1 f2 f3 f4
     obtain ⟨g1,g2,g3⟩:=aset5 HG.out Hv.out Hsv.out (i64 (e.old % 4)) (i64 (e.old / 4 % 2)) (i64 (e.old / 8 % 8192)) (i64 (e.old / 65536 % 16777216)) (i64 (e.old / 1099511627776))
     replace HG:=zI2 g1
     replace Hv:=zI2 g2
     replace Hx:=zI2 (g3 _ _ Hx.out Hnevx.out)
     clear g1 g2 g3
     generalize ((((ww4.setCell ⟨bv,0,none⟩ (i64 (e.old % 4))).setCell ⟨bv,1,none⟩ (i64 (e.old / 4 % 2))).setCell ⟨bv,2,none⟩ (i64 (e.old / 8 % 8192))).setCell ⟨bv,3,none⟩ (i64 (e.old / 65536 % 16777216))).setCell ⟨bv,4,none⟩ (i64 (e.old / 1099511627776)) = wy0 at HG Hv Hx ⊢
     refine hK.out _ _ HG.out (fun _=>?_)
     (try simp only [Act.put,qset])
     clear hK K
     refine runT rfl (fun K hK=>?_)
     have q0:=Hx.out.at' 0 _ rfl
     have q1:=Hx.out.at' 1 _ rfl
     have q2:=Hx.out.at' 2 _ rfl
     have q3:=Hx.out.at' 3 _ rfl
     have q4:=Hx.out.at' 4 _ rfl
     have f0:=Hx.out.fz 0
     have f1:=Hx.out.fz 1
     have f2:=Hx.out.fz 2
     have f3:=Hx.out.fz 3
     have f4:=Hx.out.fz 4
     go_simp
     clear q0 q1 q2 q3 q4 f0 f1 f2 f3 f4
     obtain ⟨g1,g2,g3⟩:=aset5 HG.out Hx.out Hsx.out (i64 (e.new % 4)) (i64 (e.new / 4 % 2)) (i64 (e.new / 8 % 8192)) (i64 (e.new / 65536 % 16777216)) (i64 (e.new / 1099511627776))
     replace HG:=zI2 g1
     replace Hx:=zI2 g2
     replace Hv:=zI2 (g3 _ _ Hv.out (fun e=>Hnevx.out e.symm))
     clear g1 g2 g3
     generalize ((((wy0.setCell ⟨bx,0,none⟩ (i64 (e.new % 4))).setCell ⟨bx,1,none⟩ (i64 (e.new / 4 % 2))).setCell ⟨bx,2,none⟩ (i64 (e.new / 8 % 8192))).setCell ⟨bx,3,none⟩ (i64 (e.new / 65536 % 16777216))).setCell ⟨bx,4,none⟩ (i64 (e.new / 1099511627776)) = wy1 at HG Hv Hx ⊢
     refine hK.out _ _ HG.out (fun _=>?_)
     (try simp only [Act.put,qset])
     clear hK K
     refine zAO ?_
     go_wp2_with fail
     go_meet
     exact ⟨bv,bx,rfl,rfl,Hv,Hx,HG⟩
    ·refine runT rfl (fun K hK=>?_)
     go_simp
     have hb:=zAB (Below.refl ww2.heap.size ww2) (.cells #[i64 0,i64 0,i64 0,i64 0,i64 0] 122)
     have Hx : Hid (IsObj (ww2.alloc (.cells #[i64 0,i64 0,i64 0,i64 0,i64 0] 122)) ww2.heap.size [i64 0,i64 0,i64 0,i64 0,i64 0]):=IsObj.made ww2 [i64 0,i64 0,i64 0,i64 0,i64 0] 122
     have Hsx : Hid (w1.heap.size ≤ ww2.heap.size):=HG.out.size
     replace HG:=zI2 (zAA HG.out hb)
     clear hb
     generalize ww2.alloc (.cells #[i64 0,i64 0,i64 0,i64 0,i64 0] 122) = ww3 at HG Hx ⊢
     generalize ww2.heap.size = bx at Hx Hsx ⊢
     refine hK.out _ _ HG.out (fun _=>?_)
     (try simp only [Act.put,qset])
     clear hK K
     try clear ww2
     refine runT rfl (fun K hK=>?_)
     go_simp
     have hb:=zAB (Below.refl ww3.heap.size ww3) (.cells #[i64 0,i64 0,i64 0,i64 0,i64 0] 122)
     have Hv : Hid (IsObj (ww3.alloc (.cells #[i64 0,i64 0,i64 0,i64 0,i64 0] 122)) ww3.heap.size [i64 0,i64 0,i64 0,i64 0,i64 0]):=IsObj.made ww3 [i64 0,i64 0,i64 0,i64 0,i64 0] 122
     have Hnevx : Hid (ww3.heap.size ≠ bx):=by have:=Hx.out.lt; show _ ≠ _; omega
     replace Hx:=zI2 (Hx.out.later hb)
     have Hsv : Hid (w1.heap.size ≤ ww3.heap.size):=HG.out.size
     replace HG:=zI2 (zAA HG.out hb)
     clear hb
     generalize ww3.alloc (.cells #[i64 0,i64 0,i64 0,i64 0,i64 0] 122) = ww4 at HG Hv Hx ⊢
     generalize ww3.heap.size = bv at Hv Hsv Hnevx ⊢
     refine hK.out _ _ HG.out (fun _=>?_)
     (try simp only [Act.put,qset])
     clear hK K
     try clear ww3
     refine runT rfl (fun K hK=>?_)
     have q0:=Hv.out.at' 0 _ rfl
     have q1:=Hv.out.at' 1 _ rfl
     have q2:=Hv.out.at' 2 _ rfl
     have q3:=Hv.out.at' 3 _ rfl
     have q4:=Hv.out.at' 4 _ rfl
     have f0:=Hv.out.fz 0
     have f1:=Hv.out.fz 1
     have f2:=Hv.out.fz 2
     have f3:=Hv.out.fz 3
     have f4:=Hv.out.fz 4
     go_simp
     clear q0 q1 q2 q3 q4 f0 f1 f2 f3 f4
     obtain ⟨g1,g2,g3⟩:=aset5 HG.out Hv.out Hsv.out (i64 (e.old % 4)) (i64 (e.old / 4 % 2)) (i64 (e.old / 8 % 8192)) (i64 (e.old / 65536 % 16777216)) (i64 (e.old / 1099511627776))
     replace HG:=zI2 g1
     replace Hv:=zI2 g2
     replace Hx:=zI2 (g3 _ _ Hx.out Hnevx.out)
     clear g1 g2 g3
     generalize ((((ww4.setCell ⟨bv,0,none⟩ (i64 (e.old % 4))).setCell ⟨bv,1,none⟩ (i64 (e.old / 4 % 2))).setCell ⟨bv,2,none⟩ (i64 (e.old / 8 % 8192))).setCell ⟨bv,3,none⟩ (i64 (e.old / 65536 % 16777216))).setCell ⟨bv,4,none⟩ (i64 (e.old / 1099511627776)) = wy0 at HG Hx Hv ⊢
     refine hK.out _ _ HG.out (fun _=>?_)
     (try simp only [Act.put,qset])
     clear hK K
     refine runT rfl (fun K hK=>?_)
     have q0:=Hx.out.at' 0 _ rfl
     have q1:=Hx.out.at' 1 _ rfl
     have q2:=Hx.out.at' 2 _ rfl
     have q3:=Hx.out.at' 3 _ rfl
     have q4:=Hx.out.at' 4 _ rfl
     have f0:=Hx.out.fz 0
     have f1:=Hx.out.fz 1
     have f2:=Hx.out.fz 2
     have f3:=Hx.out.fz 3
     have f4:=Hx.out.fz 4
     go_simp
     clear q0 q1 q2 q3 q4 f0 f1 f2 f3 f4
     obtain ⟨g1,g2,g3⟩:=aset5 HG.out Hx.out Hsx.out (i64 (e.new % 4)) (i64 (e.new / 4 % 2)) (i64 (e.new / 8 % 8192)) (i64 (e.new / 65536 % 16777216)) (i64 (e.new / 1099511627776))
     replace HG:=zI2 g1
     replace Hx:=zI2 g2
     replace Hv:=zI2 (g3 _ _ Hv.out (fun e=>Hnevx.out e.symm))
     clear g1 g2 g3
     generalize ((((wy0.setCell ⟨bx,0,none⟩ (i64 (e.new % 4))).setCell ⟨bx,1,none⟩ (i64 (e.new / 4 % 2))).setCell ⟨bx,2,none⟩ (i64 (e.new / 8 % 8192))).setCell ⟨bx,3,none⟩ (i64 (e.new / 65536 % 16777216))).setCell ⟨bx,4,none⟩ (i64 (e.new / 1099511627776)) = wy1 at HG Hx Hv ⊢
     refine hK.out _ _ HG.out (fun _=>?_)
     (try simp only [Act.put,qset])
     clear hK K
     refine zAO ?_
     go_wp2_with fail
     go_meet
     exact ⟨bv,bx,rfl,rfl,Hv,Hx,HG⟩
   ·refine runT rfl (fun K hK=>?_)
    go_simp
    have hb:=zAB (Below.refl ww1.heap.size ww1) (.cells #[i64 0,i64 0,i64 0,i64 0,i64 0] 122)
    have Hv : Hid (IsObj (ww1.alloc (.cells #[i64 0,i64 0,i64 0,i64 0,i64 0] 122)) ww1.heap.size [i64 0,i64 0,i64 0,i64 0,i64 0]):=IsObj.made ww1 [i64 0,i64 0,i64 0,i64 0,i64 0] 122
    have Hsv : Hid (w1.heap.size ≤ ww1.heap.size):=HG.out.size
    replace HG:=zI2 (zAA HG.out hb)
    clear hb
    generalize ww1.alloc (.cells #[i64 0,i64 0,i64 0,i64 0,i64 0] 122) = ww2 at HG Hv ⊢
    generalize ww1.heap.size = bv at Hv Hsv ⊢
    refine hK.out _ _ HG.out (fun _=>?_)
    (try simp only [Act.put,qset])
    clear hK K
    try clear ww1
    refine ⟨?_, ?_⟩
    ·refine runT rfl (fun K hK=>?_)
     go_simp
     go_at_call 64
     refine (zAN e.new _ HFE.out.n0 HFE.out.n1).mono ?_
     rintro r ww3 ⟨rfl,hb⟩
     (try go_wp2_with fail)
     replace Hv:=zI2 (Hv.out.later hb)
     replace HG:=zI2 (zAA HG.out hb)
     clear hb
     refine hK.out _ _ HG.out (fun _=>?_)
     (try simp only [Act.put,qset])
     clear hK K
     try clear ww2
     refine runT rfl (fun K hK=>?_)
     go_simp
     have hb:=zAB (Below.refl ww3.heap.size ww3) (.cells #[i64 0,i64 0,i64 0,i64 0,i64 0] 122)
     have Hx : Hid (IsObj (ww3.alloc (.cells #[i64 0,i64 0,i64 0,i64 0,i64 0] 122)) ww3.heap.size [i64 0,i64 0,i64 0,i64 0,i64 0]):=IsObj.made ww3 [i64 0,i64 0,i64 0,i64 0,i64 0] 122
     have Hnevx : Hid (bv ≠ ww3.heap.size):=by have:=Hv.out.lt; show _ ≠ _; omega
     replace Hv:=zI2 (Hv.out.later hb)
     have Hsx : Hid (w1.heap.size ≤ ww3.heap.size):=HG.out.size
     replace HG:=zI2 (zAA HG.out hb)
     clear hb
     generalize ww3.alloc (.cells #[i64 0,i64 0,i64 0,i64 0,i64 0] 122) = ww4 at HG Hx Hv ⊢
     generalize ww3.heap.size = bx at Hx Hsx Hnevx ⊢
     refine hK.out _ _ HG.out (fun _=>?_)
     (try simp only [Act.put,qset])
     clear hK K
     try clear ww3
     refine runT rfl (fun K hK=>?_)
     have q0:=Hv.out.at' 0 _ rfl
     have q1:=Hv.out.at' 1 _ rfl
     have q2:=Hv.out.at' 2 _ rfl
     have q3:=Hv.out.at' 3 _ rfl
     have q4:=Hv.out.at' 4 _ rfl
     have f0:=Hv.out.fz 0
     have f1:=Hv.out.fz 1
     have f2:=Hv.out.fz 2
     have f3:=Hv.out.fz 3
     have f4:=Hv.out.fz 4
     go_simp
     clear q0 q1 q2 q3 q4 f0 f1 f2 f3 f4
     obtain ⟨g1,g2,g3⟩:=aset5 HG.out Hv.out Hsv.out (i64 (e.old % 4)) (i64 (e.old / 4 % 2)) (i64 (e.old / 8 % 8192)) (i64 (e.old / 65536 % 16777216)) (i64 (e.old / 1099511627776))
     replace HG:=zI2 g1
     replace Hv:=zI2 g2
     replace Hx:=zI2 (g3 _ _ Hx.out Hnevx.out)
     clear g1 g2 g3
     generalize ((((ww4.setCell ⟨bv,0,none⟩ (i64 (e.old % 4))).setCell ⟨bv,1,none⟩ (i64 (e.old / 4 % 2))).setCell ⟨bv,2,none⟩ (i64 (e.old / 8 % 8192))).setCell ⟨bv,3,none⟩ (i64 (e.old / 65536 % 16777216))).setCell ⟨bv,4,none⟩ (i64 (e.old / 1099511627776)) = wy0 at HG Hv Hx ⊢
     refine hK.out _ _ HG.out (fun _=>?_)
     (try simp only [Act.put,qset])
     clear hK K
     refine runT rfl (fun K hK=>?_)
     have q0:=Hx.out.at' 0 _ rfl
     have q1:=Hx.out.at' 1 _ rfl
     have q2:=Hx.out.at' 2 _ rfl
     have q3:=Hx.out.at' 3 _ rfl
     have q4:=Hx.out.at' 4 _ rfl
     have f0:=Hx.out.fz 0
     have f1:=Hx.out.fz 1
     have f2:=Hx.out.fz 2
     have f3:=Hx.out.fz 3
     have f4:=Hx.out.fz 4
     go_simp
     clear q0 q1 q2 q3 q4 f0 f1 f2 f3 f4
     obtain ⟨g1,g2,g3⟩:=aset5 HG.out Hx.out Hsx.out (i64 (e.new % 4)) (i64 (e.new / 4 % 2)) (i64 (e.new / 8 % 8192)) (i64 (e.new / 65536 % 16777216)) (i64 (e.new / 1099511627776))
     replace HG:=zI2 g1
     replace Hx:=zI2 g2
     replace Hv:=zI2 (g3 _ _ Hv.out (fun e=>Hnevx.out e.symm))
     clear g1 g2 g3
     generalize ((((wy0.setCell ⟨bx,0,none⟩ (i64 (e.new % 4))).setCell ⟨bx,1,none⟩ (i64 (e.new / 4 % 2))).setCell ⟨bx,2,none⟩ (i64 (e.new / 8 % 8192))).setCell ⟨bx,3,none⟩ (i64 (e.new / 65536 % 16777216))).setCell ⟨bx,4,none⟩ (i64 (e.new / 1099511627776)) = wy1 at HG Hv Hx ⊢
     refine hK.out _ _ HG.out (fun _=>?_)
     (try simp only [Act.put,qset])
     clear hK K
     refine zAO ?_
     go_wp2_with fail
     go_meet
     exact ⟨bv,bx,rfl,rfl,Hv,Hx,HG⟩
    ·refine runT rfl (fun K hK=>?_)
     go_simp
     have hb:=zAB (Below.refl ww2.heap.size ww2) (.cells #[i64 0,i64 0,i64 0,i64 0,i64 0] 122)
     have Hx : Hid (IsObj (ww2.alloc (.cells #[i64 0,i64 0,i64 0,i64 0,i64 0] 122)) ww2.heap.size [i64 0,i64 0,i64 0,i64 0,i64 0]):=IsObj.made ww2 [i64 0,i64 0,i64 0,i64 0,i64 0] 122
     have Hnevx : Hid (bv ≠ ww2.heap.size):=by have:=Hv.out.lt; show _ ≠ _; omega
     replace Hv:=zI2 (Hv.out.later hb)
     have Hsx : Hid (w1.heap.size ≤ ww2.heap.size):=HG.out.size
     replace HG:=zI2 (zAA HG.out hb)
     clear hb
     generalize ww2.alloc (.cells #[i64 0,i64 0,i64 0,i64 0,i64 0] 122) = ww3 at HG Hx Hv ⊢
     generalize ww2.heap.size = bx at Hx Hsx Hnevx ⊢
     refine hK.out _ _ HG.out (fun _=>?_)
     (try simp only [Act.put,qset])
     clear hK K
     try clear ww2
     refine runT rfl (fun K hK=>?_)
     go_simp
     go_at_call 64
     refine (zAN e.new _ HFE.out.n0 HFE.out.n1).mono ?_
     rintro r ww4 ⟨rfl,hb⟩
     (try go_wp2_with fail)
     replace Hv:=zI2 (Hv.out.later hb)
     replace Hx:=zI2 (Hx.out.later hb)
     replace HG:=zI2 (zAA HG.out hb)
     clear hb
     refine hK.out _ _ HG.out (fun _=>?_)
     (try simp only [Act.put,qset])
     clear hK K
     try clear ww3
     refine runT rfl (fun K hK=>?_)
     have q0:=Hv.out.at' 0 _ rfl
     have q1:=Hv.out.at' 1 _ rfl
     have q2:=Hv.out.at' 2 _ rfl
     have q3:=Hv.out.at' 3 _ rfl
     have q4:=Hv.out.at' 4 _ rfl
     have f0:=Hv.out.fz 0
     have f1:=Hv.out.fz 1
     have f2:=Hv.out.fz 2
     have f3:=Hv.out.fz 3
     have f4:=Hv.out.fz 4
     go_simp
     clear q0 q1 q2 q3 q4 f0 f1 f2 f3 f4
     obtain ⟨g1,g2,g3⟩:=aset5 HG.out Hv.out Hsv.out (i64 (e.old % 4)) (i64 (e.old / 4 % 2)) (i64 (e.old / 8 % 8192)) (i64 (e.old / 65536 % 16777216)) (i64 (e.old / 1099511627776))
     replace HG:=zI2 g1
     replace Hv:=zI2 g2
     replace Hx:=zI2 (g3 _ _ Hx.out Hnevx.out)
     clear g1 g2 g3
     generalize ((((ww4.setCell ⟨bv,0,none⟩ (i64 (e.old % 4))).setCell ⟨bv,1,none⟩ (i64 (e.old / 4 % 2))).setCell ⟨bv,2,none⟩ (i64 (e.old / 8 % 8192))).setCell ⟨bv,3,none⟩ (i64 (e.old / 65536 % 16777216))).setCell ⟨bv,4,none⟩ (i64 (e.old / 1099511627776)) = wy0 at HG Hv Hx ⊢
     refine hK.out _ _ HG.out (fun _=>?_)
     (try simp only [Act.put,qset])
     clear hK K
     refine runT rfl (fun K hK=>?_)
     have q0:=Hx.out.at' 0 _ rfl
     have q1:=Hx.out.at' 1 _ rfl
     have q2:=Hx.out.at' 2 _ rfl
     have q3:=Hx.out.at' 3 _ rfl
     have q4:=Hx.out.at' 4 _ rfl
     have f0:=Hx.out.fz 0
     have f1:=Hx.out.fz 1
     have f2:=Hx.out.fz 2
     have f3:=Hx.out.fz 3
     have f4:=Hx.out.fz 4
     go_simp
     clear q0 q1 q2 q3 q4 f0 f1 f2 f3 f4
     obtain ⟨g1,g2,g3⟩:=aset5 HG.out Hx.out Hsx.out (i64 (e.new % 4)) (i64 (e.new / 4 % 2)) (i64 (e.new / 8 % 8192)) (i64 (e.new / 65536 % 16777216)) (i64 (e.new / 1099511627776))
     replace HG:=zI2 g1
     replace Hx:=zI2 g2
     replace Hv:=zI2 (g3 _ _ Hv.out (fun e=>Hnevx.out e.symm))
     clear g1 g2 g3
     generalize ((((wy0.setCell ⟨bx,0,none⟩ (i64 (e.new % 4))).setCell ⟨bx,1,none⟩ (i64 (e.new / 4 % 2))).setCell ⟨bx,2,none⟩ (i64 (e.new / 8 % 8192))).setCell ⟨bx,3,none⟩ (i64 (e.new / 65536 % 16777216))).setCell ⟨bx,4,none⟩ (i64 (e.new / 1099511627776)) = wy1 at HG Hv Hx ⊢
     refine hK.out _ _ HG.out (fun _=>?_)
     (try simp only [Act.put,qset])
     clear hK K
     refine zAO ?_
     go_wp2_with fail
     go_meet
     exact ⟨bv,bx,rfl,rfl,Hv,Hx,HG⟩
   ·refine runT rfl (fun K hK=>?_)
    go_simp
    have hb:=zAB (Below.refl ww1.heap.size ww1) (.cells #[i64 0,i64 0,i64 0,i64 0,i64 0] 122)
    have Hx : Hid (IsObj (ww1.alloc (.cells #[i64 0,i64 0,i64 0,i64 0,i64 0] 122)) ww1.heap.size [i64 0,i64 0,i64 0,i64 0,i64 0]):=IsObj.made ww1 [i64 0,i64 0,i64 0,i64 0,i64 0] 122
    have Hsx : Hid (w1.heap.size ≤ ww1.heap.size):=HG.out.size
    replace HG:=zI2 (zAA HG.out hb)
    clear hb
    generalize ww1.alloc (.cells #[i64 0,i64 0,i64 0,i64 0,i64 0] 122) = ww2 at HG Hx ⊢
    generalize ww1.heap.size = bx at Hx Hsx ⊢
    refine hK.out _ _ HG.out (fun _=>?_)
    (try simp only [Act.put,qset])
    clear hK K
    try clear ww1
    refine ⟨?_, ?_⟩
    ·refine runT rfl (fun K hK=>?_)
     go_simp
     go_at_call 64
     refine (zAN e.new _ HFE.out.n0 HFE.out.n1).mono ?_
     rintro r ww3 ⟨rfl,hb⟩
     (try go_wp2_with fail)
     replace Hx:=zI2 (Hx.out.later hb)
     replace HG:=zI2 (zAA HG.out hb)
     clear hb
     refine hK.out _ _ HG.out (fun _=>?_)
     (try simp only [Act.put,qset])
     clear hK K
     try clear ww2
     refine runT rfl (fun K hK=>?_)
     go_simp
     have hb:=zAB (Below.refl ww3.heap.size ww3) (.cells #[i64 0,i64 0,i64 0,i64 0,i64 0] 122)
     have Hv : Hid (IsObj (ww3.alloc (.cells #[i64 0,i64 0,i64 0,i64 0,i64 0] 122)) ww3.heap.size [i64 0,i64 0,i64 0,i64 0,i64 0]):=IsObj.made ww3 [i64 0,i64 0,i64 0,i64 0,i64 0] 122
     have Hnevx : Hid (ww3.heap.size ≠ bx):=by have:=Hx.out.lt; show _ ≠ _; omega
     replace Hx:=zI2 (Hx.out.later hb)
     have Hsv : Hid (w1.heap.size ≤ ww3.heap.size):=HG.out.size
     replace HG:=zI2 (zAA HG.out hb)
     clear hb
     generalize ww3.alloc (.cells #[i64 0,i64 0,i64 0,i64 0,i64 0] 122) = ww4 at HG Hv Hx ⊢
     generalize ww3.heap.size = bv at Hv Hsv Hnevx ⊢
     refine hK.out _ _ HG.out (fun _=>?_)
     (try simp only [Act.put,qset])
     clear hK K
     try clear ww3
     refine runT rfl (fun K hK=>?_)
     have q0:=Hv.out.at' 0 _ rfl
     have q1:=Hv.out.at' 1 _ rfl
     have q2:=Hv.out.at' 2 _ rfl
     have q3:=Hv.out.at' 3 _ rfl
     have q4:=Hv.out.at' 4 _ rfl
     have f0:=Hv.out.fz 0
     have f1:=Hv.out.fz 1
     have f2:=Hv.out.fz 2
     have f3:=Hv.out.fz 3
     have f4:=Hv.out.fz 4
     go_simp
     clear q0 q1 q2 q3 q4 f0 f1 f2 f3 f4
     obtain ⟨g1,g2,g3⟩:=aset5 HG.out Hv.out Hsv.out (i64 (e.old % 4)) (i64 (e.old / 4 % 2)) (i64 (e.old / 8 % 8192)) (i64 (e.old / 65536 % 16777216)) (i64 (e.old / 1099511627776))
     replace HG:=zI2 g1
     replace Hv:=zI2 g2
     replace Hx:=zI2 (g3 _ _ Hx.out Hnevx.out)
     clear g1 g2 g3
     generalize ((((ww4.setCell ⟨bv,0,none⟩ (i64 (e.old % 4))).setCell ⟨bv,1,none⟩ (i64 (e.old / 4 % 2))).setCell ⟨bv,2,none⟩ (i64 (e.old / 8 % 8192))).setCell ⟨bv,3,none⟩ (i64 (e.old / 65536 % 16777216))).setCell ⟨bv,4,none⟩ (i64 (e.old / 1099511627776)) = wy0 at HG Hx Hv ⊢
     refine hK.out _ _ HG.out (fun _=>?_)
     (try simp only [Act.put,qset])
     clear hK K
     refine runT rfl (fun K hK=>?_)
     have q0:=Hx.out.at' 0 _ rfl
     have q1:=Hx.out.at' 1 _ rfl
     have q2:=Hx.out.at' 2 _ rfl
     have q3:=Hx.out.at' 3 _ rfl
     have q4:=Hx.out.at' 4 _ rfl
     have f0:=Hx.out.fz 0
     have f1:=Hx.out.fz 1
     have f2:=Hx.out.fz 2
     have f3:=Hx.out.fz 3
     have f4:=Hx.out.fz 4
     go_simp
     clear q0 q1 q2 q3 q4 f0 f1 f2 f3 f4
     obtain ⟨g1,g2,g3⟩:=aset5 HG.out Hx.out Hsx.out (i64 (e.new % 4)) (i64 (e.new / 4 % 2)) (i64 (e.new / 8 % 8192)) (i64 (e.new / 65536 % 16777216)) (i64 (e.new / 1099511627776))
     replace HG:=zI2 g1
     replace Hx:=zI2 g2
     replace Hv:=zI2 (g3 _ _ Hv.out (fun e=>Hnevx.out e.symm))
     clear g1 g2 g3
     generalize ((((wy0.setCell ⟨bx,0,none⟩ (i64 (e.new % 4))).setCell ⟨bx,1,none⟩ (i64 (e.new / 4 % 2))).setCell ⟨bx,2,none⟩ (i64 (e.new / 8 % 8192))).setCell ⟨bx,3,none⟩ (i64 (e.new / 65536 % 16777216))).setCell ⟨bx,4,none⟩ (i64 (e.new / 1099511627776)) = wy1 at HG Hx Hv ⊢
     refine hK.out _ _ HG.out (fun _=>?_)
     (try simp only [Act.put,qset])
     clear hK K
     refine zAO ?_
     go_wp2_with fail
     go_meet
     exact ⟨bv,bx,rfl,rfl,Hv,Hx,HG⟩
    ·refine runT rfl (fun K hK=>?_)
     go_simp
     have hb:=zAB (Below.refl ww2.heap.size ww2) (.cells #[i64 0,i64 0,i64 0,i64 0,i64 0] 122)
     have Hv : Hid (IsObj (ww2.alloc (.cells #[i64 0,i64 0,i64 0,i64 0,i64 0] 122)) ww2.heap.size [i64 0,i64 0,i64 0,i64 0,i64 0]):=IsObj.made ww2 [i64 0,i64 0,i64 0,i64 0,i64 0] 122
     have Hnevx : Hid (ww2.heap.size ≠ bx):=by have:=Hx.out.lt; show _ ≠ _; omega
     replace Hx:=zI2 (Hx.out.later hb)
     have Hsv : Hid (w1.heap.size ≤ ww2.heap.size):=HG.out.size
     replace HG:=zI2 (zAA HG.out hb)
     clear hb
     generalize ww2.alloc (.cells #[i64 0,i64 0,i64 0,i64 0,i64 0] 122) = ww3 at HG Hv Hx ⊢
     generalize ww2.heap.size = bv at Hv Hsv Hnevx ⊢
     refine hK.out _ _ HG.out (fun _=>?_)
     (try simp only [Act.put,qset])
     clear hK K
     try clear ww2
     refine runT rfl (fun K hK=>?_)
     go_simp
     go_at_call 64
     refine (zAN e.new _ HFE.out.n0 HFE.out.n1).mono ?_
     rintro r ww4 ⟨rfl,hb⟩
     (try go_wp2_with fail)
     replace Hx:=zI2 (Hx.out.later hb)
     replace Hv:=zI2 (Hv.out.later hb)
     replace HG:=zI2 (zAA HG.out hb)
     clear hb
     refine hK.out _ _ HG.out (fun _=>?_)
     (try simp only [Act.put,qset])
     clear hK K
     try clear ww3
     refine runT rfl (fun K hK=>?_)
     have q0:=Hv.out.at' 0 _ rfl
     have q1:=Hv.out.at' 1 _ rfl
     have q2:=Hv.out.at' 2 _ rfl
     have q3:=Hv.out.at' 3 _ rfl
     have q4:=Hv.out.at' 4 _ rfl
     have f0:=Hv.out.fz 0
     have f1:=Hv.out.fz 1
     have f2:=Hv.out.fz 2
     have f3:=Hv.out.fz 3
     have f4:=Hv.out.fz 4
     go_simp
     clear q0 q1 q2 q3 q4 f0 f1 f2 f3 f4
     obtain ⟨g1,g2,g3⟩:=aset5 HG.out Hv.out Hsv.out (i64 (e.old % 4)) (i64 (e.old / 4 % 2)) (i64 (e.old / 8 % 8192)) (i64 (e.old / 65536 % 16777216)) (i64 (e.old / 1099511627776))
     replace HG:=zI2 g1
     replace Hv:=zI2 g2
     replace Hx:=zI2 (g3 _ _ Hx.out Hnevx.out)
     clear g1 g2 g3
     generalize ((((ww4.setCell ⟨bv,0,none⟩ (i64 (e.old % 4))).setCell ⟨bv,1,none⟩ (i64 (e.old / 4 % 2))).setCell ⟨bv,2,none⟩ (i64 (e.old / 8 % 8192))).setCell ⟨bv,3,none⟩ (i64 (e.old / 65536 % 16777216))).setCell ⟨bv,4,none⟩ (i64 (e.old / 1099511627776)) = wy0 at HG Hx Hv ⊢
     refine hK.out _ _ HG.out (fun _=>?_)
     (try simp only [Act.put,qset])
     clear hK K
     refine runT rfl (fun K hK=>?_)
     have q0:=Hx.out.at' 0 _ rfl
     have q1:=Hx.out.at' 1 _ rfl
     have q2:=Hx.out.at' 2 _ rfl
     have q3:=Hx.out.at' 3 _ rfl
     have q4:=Hx.out.at' 4 _ rfl
     have f0:=Hx.out.fz 0
     have f1:=Hx.out.fz 1
     have f2:=Hx.out.fz 2
     have f3:=Hx.out.fz 3
     have f4:=Hx.out.fz 4
     go_simp
     clear q0 q1 q2 q3 q4 f0 f1 f2 f3 f4
     obtain ⟨g1,g2,g3⟩:=aset5 HG.out Hx.out Hsx.out (i64 (e.new % 4)) (i64 (e.new / 4 % 2)) (i64 (e.new / 8 % 8192)) (i64 (e.new / 65536 % 16777216)) (i64 (e.new / 1099511627776))
     replace HG:=zI2 g1
     replace Hx:=zI2 g2
     replace Hv:=zI2 (g3 _ _ Hv.out (fun e=>Hnevx.out e.symm))
     clear g1 g2 g3
     generalize ((((wy0.setCell ⟨bx,0,none⟩ (i64 (e.new % 4))).setCell ⟨bx,1,none⟩ (i64 (e.new / 4 % 2))).setCell ⟨bx,2,none⟩ (i64 (e.new / 8 % 8192))).setCell ⟨bx,3,none⟩ (i64 (e.new / 65536 % 16777216))).setCell ⟨bx,4,none⟩ (i64 (e.new / 1099511627776)) = wy1 at HG Hx Hv ⊢
     refine hK.out _ _ HG.out (fun _=>?_)
     (try simp only [Act.put,qset])
     clear hK K
     refine zAO ?_
     go_wp2_with fail
     go_meet
     exact ⟨bv,bx,rfl,rfl,Hv,Hx,HG⟩
  ·refine runT rfl (fun K hK=>?_)
   go_simp
   have hb:=zAB (Below.refl ww0.heap.size ww0) (.cells #[i64 0,i64 0,i64 0,i64 0,i64 0] 122)
   have Hv : Hid (IsObj (ww0.alloc (.cells #[i64 0,i64 0,i64 0,i64 0,i64 0] 122)) ww0.heap.size [i64 0,i64 0,i64 0,i64 0,i64 0]):=IsObj.made ww0 [i64 0,i64 0,i64 0,i64 0,i64 0] 122
   have Hsv : Hid (w1.heap.size ≤ ww0.heap.size):=HG.out.size
   replace HG:=zI2 (zAA HG.out hb)
   clear hb
   generalize ww0.alloc (.cells #[i64 0,i64 0,i64 0,i64 0,i64 0] 122) = ww1 at HG Hv ⊢
   generalize ww0.heap.size = bv at Hv Hsv ⊢
   refine hK.out _ _ HG.out (fun _=>?_)
   (try simp only [Act.put,qset])
   clear hK K
   try clear ww0
   refine ⟨?_, ?_⟩
   ·refine runT rfl (fun K hK=>?_)
    go_simp
    go_at_call 64
    refine (zAN e.old _ HFE.out.o0 HFE.out.o1).mono ?_
    rintro r ww2 ⟨rfl,hb⟩
    (try go_wp2_with fail)
    replace Hv:=zI2 (Hv.out.later hb)
    replace HG:=zI2 (zAA HG.out hb)
    clear hb
    refine hK.out _ _ HG.out (fun _=>?_)
    (try simp only [Act.put,qset])
    clear hK K
    try clear ww1
    refine ⟨?_, ?_⟩
    ·refine runT rfl (fun K hK=>?_)
     go_simp
     go_at_call 64
     refine (zAN e.new _ HFE.out.n0 HFE.out.n1).mono ?_
     rintro r ww3 ⟨rfl,hb⟩
     (try go_wp2_with fail)
     replace Hv:=zI2 (Hv.out.later hb)
     replace HG:=zI2 (zAA HG.out hb)
     clear hb
     refine hK.out _ _ HG.out (fun _=>?_)
     (try simp only [Act.put,qset])
     clear hK K
     try clear ww2
     refine runT rfl (fun K hK=>?_)
     go_simp
     have hb:=zAB (Below.refl ww3.heap.size ww3) (.cells #[i64 0,i64 0,i64 0,i64 0,i64 0] 122)
     have Hx : Hid (IsObj (ww3.alloc (.cells #[i64 0,i64 0,i64 0,i64 0,i64 0] 122)) ww3.heap.size [i64 0,i64 0,i64 0,i64 0,i64 0]):=IsObj.made ww3 [i64 0,i64 0,i64 0,i64 0,i64 0] 122
     have Hnevx : Hid (bv ≠ ww3.heap.size):=by have:=Hv.out.lt; show _ ≠ _; omega
     replace Hv:=zI2 (Hv.out.later hb)
     have Hsx : Hid (w1.heap.size ≤ ww3.heap.size):=HG.out.size
     replace HG:=zI2 (zAA HG.out hb)
     clear hb
     generalize ww3.alloc (.cells #[i64 0,i64 0,i64 0,i64 0,i64 0] 122) = ww4 at HG Hx Hv ⊢
     generalize ww3.heap.size = bx at Hx Hsx Hnevx ⊢
     refine hK.out _ _ HG.out (fun _=>?_)
     (try simp only [Act.put,qset])
     clear hK K
     try clear ww3
     refine runT rfl (fun K hK=>?_)
     have q0:=Hv.out.at' 0 _ rfl
     have q1:=Hv.out.at' 1 _ rfl
     have q2:=Hv.out.at' 2 _ rfl
     have q3:=Hv.out.at' 3 _ rfl
     have q4:=Hv.out.at' 4 _ rfl
     have f0:=Hv.out.fz 0
     have f1:=Hv.out.fz 1
     have f2:=Hv.out.fz 2
     have f3:=Hv.out.fz 3
     have f4:=Hv.out.fz 4
     go_simp
     clear q0 q1 q2 q3 q4 f0 f1 f2 f3 f4
     obtain ⟨g1,g2,g3⟩:=aset5 HG.out Hv.out Hsv.out (i64 (e.old % 4)) (i64 (e.old / 4 % 2)) (i64 (e.old / 8 % 8192)) (i64 (e.old / 65536 % 16777216)) (i64 (e.old / 1099511627776))
     replace HG:=zI2 g1
     replace Hv:=zI2 g2
     replace Hx:=zI2 (g3 _ _ Hx.out Hnevx.out)
     clear g1 g2 g3
     generalize ((((ww4.setCell ⟨bv,0,none⟩ (i64 (e.old % 4))).setCell ⟨bv,1,none⟩ (i64 (e.old / 4 % 2))).setCell ⟨bv,2,none⟩ (i64 (e.old / 8 % 8192))).setCell ⟨bv,3,none⟩ (i64 (e.old / 65536 % 16777216))).setCell ⟨bv,4,none⟩ (i64 (e.old / 1099511627776)) = wy0 at HG Hv Hx ⊢
     refine hK.out _ _ HG.out (fun _=>?_)
     (try simp only [Act.put,qset])
     clear hK K
     refine runT rfl (fun K hK=>?_)
     have q0:=Hx.out.at' 0 _ rfl
     have q1:=Hx.out.at' 1 _ rfl
     have q2:=Hx.out.at' 2 _ rfl
     have q3:=Hx.out.at' 3 _ rfl
     have q4:=Hx.out.at' 4 _ rfl
     have f0:=Hx.out.fz 0
     have f1:=Hx.out.fz 1
     have f2:=Hx.out.fz 2
     have f3:=Hx.out.fz 3
     have f4:=Hx.out.fz 4
     go_simp
     clear q0 q1 q2 q3 q4 f0 f1 f2 f3 f4
     obtain ⟨g1,g2,g3⟩:=aset5 HG.out Hx.out Hsx.out (i64 (e.new % 4)) (i64 (e.new / 4 % 2)) (i64 (e.new / 8 % 8192)) (i64 (e.new / 65536 % 16777216)) (i64 (e.new / 1099511627776))
     replace HG:=zI2 g1
     replace Hx:=zI2 g2
     replace Hv:=zI2 (g3 _ _ Hv.out (fun e=>Hnevx.out e.symm))
     clear g1 g2 g3
     generalize ((((wy0.setCell ⟨bx,0,none⟩ (i64 (e.new % 4))).setCell ⟨bx,1,none⟩ (i64 (e.new / 4 % 2))).setCell ⟨bx,2,none⟩ (i64 (e.new / 8 % 8192))).setCell ⟨bx,3,none⟩ (i64 (e.new / 65536 % 16777216))).setCell ⟨bx,4,none⟩ (i64 (e.new / 1099511627776)) = wy1 at HG Hv Hx ⊢
     refine hK.out _ _ HG.out (fun _=>?_)
     (try simp only [Act.put,qset])
     clear hK K
     refine zAO ?_
     go_wp2_with fail
     go_meet
     exact ⟨bv,bx,rfl,rfl,Hv,Hx,HG⟩
    ·refine runT rfl (fun K hK=>?_)
     go_simp
     have hb:=zAB (Below.refl ww2.heap.size ww2) (.cells #[i64 0,i64 0,i64 0,i64 0,i64 0] 122)
     have Hx : Hid (IsObj (ww2.alloc (.cells #[i64 0,i64 0,i64 0,i64 0,i64 0] 122)) ww2.heap.size [i64 0,i64 0,i64 0,i64 0,i64 0]):=IsObj.made ww2 [i64 0,i64 0,i64 0,i64 0,i64 0] 122
     have Hnevx : Hid (bv ≠ ww2.heap.size):=by have:=Hv.out.lt; show _ ≠ _; omega
     replace Hv:=zI2 (Hv.out.later hb)
     have Hsx : Hid (w1.heap.size ≤ ww2.heap.size):=HG.out.size
     replace HG:=zI2 (zAA HG.out hb)
     clear hb
     generalize ww2.alloc (.cells #[i64 0,i64 0,i64 0,i64 0,i64 0] 122) = ww3 at HG Hx Hv ⊢
     generalize ww2.heap.size = bx at Hx Hsx Hnevx ⊢
     refine hK.out _ _ HG.out (fun _=>?_)
     (try simp only [Act.put,qset])
     clear hK K
     try clear ww2
     refine runT rfl (fun K hK=>?_)
     go_simp
     go_at_call 64
     refine (zAN e.new _ HFE.out.n0 HFE.out.n1).mono ?_
     rintro r ww4 ⟨rfl,hb⟩
     (try go_wp2_with fail)
     replace Hv:=zI2 (Hv.out.later hb)
     replace Hx:=zI2 (Hx.out.later hb)
     replace HG:=zI2 (zAA HG.out hb)
     clear hb
     refine hK.out _ _ HG.out (fun _=>?_)
     (try simp only [Act.put,qset])
     clear hK K
     try clear ww3
     refine runT rfl (fun K hK=>?_)
     have q0:=Hv.out.at' 0 _ rfl
     have q1:=Hv.out.at' 1 _ rfl
     have q2:=Hv.out.at' 2 _ rfl
     have q3:=Hv.out.at' 3 _ rfl
     have q4:=Hv.out.at' 4 _ rfl
     have f0:=Hv.out.fz 0
     have f1:=Hv.out.fz 1
     have f2:=Hv.out.fz 2
     have f3:=Hv.out.fz 3
     have f4:=Hv.out.fz 4
     go_simp
     clear q0 q1 q2 q3 q4 f0 f1 f2 f3 f4
     obtain ⟨g1,g2,g3⟩:=aset5 HG.out Hv.out Hsv.out (i64 (e.old % 4)) (i64 (e.old / 4 % 2)) (i64 (e.old / 8 % 8192)) (i64 (e.old / 65536 % 16777216)) (i64 (e.old / 1099511627776))
     replace HG:=zI2 g1
     replace Hv:=zI2 g2
     replace Hx:=zI2 (g3 _ _ Hx.out Hnevx.out)
     clear g1 g2 g3
     generalize ((((ww4.setCell ⟨bv,0,none⟩ (i64 (e.old % 4))).setCell ⟨bv,1,none⟩ (i64 (e.old / 4 % 2))).setCell ⟨bv,2,none⟩ (i64 (e.old / 8 % 8192))).setCell ⟨bv,3,none⟩ (i64 (e.old / 65536 % 16777216))).setCell ⟨bv,4,none⟩ (i64 (e.old / 1099511627776)) = wy0 at HG Hv Hx ⊢
     refine hK.out _ _ HG.out (fun _=>?_)
     (try simp only [Act.put,qset])
     clear hK K
     refine runT rfl (fun K hK=>?_)
     have q0:=Hx.out.at' 0 _ rfl
     have q1:=Hx.out.at' 1 _ rfl
     have q2:=Hx.out.at' 2 _ rfl
     have q3:=Hx.out.at' 3 _ rfl
     have q4:=Hx.out.at' 4 _ rfl
     have f0:=Hx.out.fz 0
     have f1:=Hx.out.fz 1
     have f2:=Hx.out.fz 2
     have f3:=Hx.out.fz 3
     have f4:=Hx.out.fz 4
     go_simp
     clear q0 q1 q2 q3 q4 f0 f1 f2 f3 f4
     obtain ⟨g1,g2,g3⟩:=aset5 HG.out Hx.out Hsx.out (i64 (e.new % 4)) (i64 (e.new / 4 % 2)) (i64 (e.new / 8 % 8192)) (i64 (e.new / 65536 % 16777216)) (i64 (e.new / 1099511627776))
     replace HG:=zI2 g1
     replace Hx:=zI2 g2
     replace Hv:=zI2 (g3 _ _ Hv.out (fun e=>Hnevx.out e.symm))
     clear g1 g2 g3
     generalize ((((wy0.setCell ⟨bx,0,none⟩ (i64 (e.new % 4))).setCell ⟨bx,1,none⟩ (i64 (e.new / 4 % 2))).setCell ⟨bx,2,none⟩ (i64 (e.new / 8 % 8192))).setCell ⟨bx,3,none⟩ (i64 (e.new / 65536 % 16777216))).setCell ⟨bx,4,none⟩ (i64 (e.new / 1099511627776)) = wy1 at HG Hv Hx ⊢
     refine hK.out _ _ HG.out (fun _=>?_)
     (try simp only [Act.put,qset])
     clear hK K
     refine zAO ?_
     go_wp2_with fail
     go_meet
     exact ⟨bv,bx,rfl,rfl,Hv,Hx,HG⟩
   ·refine runT rfl (fun K hK=>?_)
    go_simp
    have hb:=zAB (Below.refl ww1.heap.size ww1) (.cells #[i64 0,i64 0,i64 0,i64 0,i64 0] 122)
    have Hx : Hid (IsObj (ww1.alloc (.cells #[i64 0,i64 0,i64 0,i64 0,i64 0] 122)) ww1.heap.size [i64 0,i64 0,i64 0,i64 0,i64 0]):=IsObj.made ww1 [i64 0,i64 0,i64 0,i64 0,i64 0] 122
    have Hnevx : Hid (bv ≠ ww1.heap.size):=by have:=Hv.out.lt; show _ ≠ _; omega
    replace Hv:=zI2 (Hv.out.later hb)
    have Hsx : Hid (w1.heap.size ≤ ww1.heap.size):=HG.out.size
    replace HG:=zI2 (zAA HG.out hb)
    clear hb
    generalize ww1.alloc (.cells #[i64 0,i64 0,i64 0,i64 0,i64 0] 122) = ww2 at HG Hx Hv ⊢
    generalize ww1.heap.size = bx at Hx Hsx Hnevx ⊢
    refine hK.out _ _ HG.out (fun _=>?_)
    (try simp only [Act.put,qset])
    clear hK K
    try clear ww1
    refine runT rfl (fun K hK=>?_)
    go_simp
    go_at_call 64
    refine (zAN e.old _ HFE.out.o0 HFE.out.o1).mono ?_
    rintro r ww3 ⟨rfl,hb⟩
    (try go_wp2_with fail)
    replace Hv:=zI2 (Hv.out.later hb)
    replace Hx:=zI2 (Hx.out.later hb)
    replace HG:=zI2 (zAA HG.out hb)
    clear hb
    refine hK.out _ _ HG.out (fun _=>?_)
    (try simp only [Act.put,qset])
    clear hK K
    try clear ww2
    refine runT rfl (fun K hK=>?_)
    go_simp
    go_at_call 64
    refine (zAN e.new _ HFE.out.n0 HFE.out.n1).mono ?_
    rintro r ww4 ⟨rfl,hb⟩
    (try go_wp2_with fail)
    replace Hv:=zI2 (Hv.out.later hb)
    replace Hx:=zI2 (Hx.out.later hb)
    replace HG:=zI2 (zAA HG.out hb)
    clear hb
    refine hK.out _ _ HG.out (fun _=>?_)
    (try simp only [Act.put,qset])
    clear hK K
    try clear ww3
    refine runT rfl (fun K hK=>?_)
    have q0:=Hv.out.at' 0 _ rfl
    have q1:=Hv.out.at' 1 _ rfl
    have q2:=Hv.out.at' 2 _ rfl
    have q3:=Hv.out.at' 3 _ rfl
    have q4:=Hv.out.at' 4 _ rfl
    have f0:=Hv.out.fz 0
    have f1:=Hv.out.fz 1
    have f2:=Hv.out.fz 2
    have f3:=Hv.out.fz 3
    have f4:=Hv.out.fz 4
    go_simp
    clear q0 q1 q2 q3 q4 f0 f1 f2 f3 f4
    obtain ⟨g1,g2,g3⟩:=aset5 HG.out Hv.out Hsv.out (i64 (e.old % 4)) (i64 (e.old / 4 % 2)) (i64 (e.old / 8 % 8192)) (i64 (e.old / 65536 % 16777216)) (i64 (e.old / 1099511627776))
    replace HG:=zI2 g1
    replace Hv:=zI2 g2
    replace Hx:=zI2 (g3 _ _ Hx.out Hnevx.out)
    clear g1 g2 g3
    generalize ((((ww4.setCell ⟨bv,0,none⟩ (i64 (e.old % 4))).setCell ⟨bv,1,none⟩ (i64 (e.old / 4 % 2))).setCell ⟨bv,2,none⟩ (i64 (e.old / 8 % 8192))).setCell ⟨bv,3,none⟩ (i64 (e.old / 65536 % 16777216))).setCell ⟨bv,4,none⟩ (i64 (e.old / 1099511627776)) = wy0 at HG Hv Hx ⊢
    refine hK.out _ _ HG.out (fun _=>?_)
    (try simp only [Act.put,qset])
    clear hK K
    refine runT rfl (fun K hK=>?_)
    have q0:=Hx.out.at' 0 _ rfl
    have q1:=Hx.out.at' 1 _ rfl
    have q2:=Hx.out.at' 2 _ rfl
    have q3:=Hx.out.at' 3 _ rfl
    have q4:=Hx.out.at' 4 _ rfl
    have f0:=Hx.out.fz 0
    have f1:=Hx.out.fz 1
    have f2:=Hx.out.fz 2
    have f3:=Hx.out.fz 3
    have f4:=Hx.out.fz 4
    go_simp
    clear q0 q1 q2 q3 q4 f0 f1 f2 f3 f4
    obtain ⟨g1,g2,g3⟩:=aset5 HG.out Hx.out Hsx.out (i64 (e.new % 4)) (i64 (e.new / 4 % 2)) (i64 (e.new / 8 % 8192)) (i64 (e.new / 65536 % 16777216)) (i64 (e.new / 1099511627776))
    replace HG:=zI2 g1
    replace Hx:=zI2 g2
    replace Hv:=zI2 (g3 _ _ Hv.out (fun e=>Hnevx.out e.symm))
    clear g1 g2 g3
    generalize ((((wy0.setCell ⟨bx,0,none⟩ (i64 (e.new % 4))).setCell ⟨bx,1,none⟩ (i64 (e.new / 4 % 2))).setCell ⟨bx,2,none⟩ (i64 (e.new / 8 % 8192))).setCell ⟨bx,3,none⟩ (i64 (e.new / 65536 % 16777216))).setCell ⟨bx,4,none⟩ (i64 (e.new / 1099511627776)) = wy1 at HG Hv Hx ⊢
    refine hK.out _ _ HG.out (fun _=>?_)
    (try simp only [Act.put,qset])
    clear hK K
    refine zAO ?_
    go_wp2_with fail
    go_meet
    exact ⟨bv,bx,rfl,rfl,Hv,Hx,HG⟩
  ·refine runT rfl (fun K hK=>?_)
   go_simp
   have hb:=zAB (Below.refl ww0.heap.size ww0) (.cells #[i64 0,i64 0,i64 0,i64 0,i64 0] 122)
   have Hx : Hid (IsObj (ww0.alloc (.cells #[i64 0,i64 0,i64 0,i64 0,i64 0] 122)) ww0.heap.size [i64 0,i64 0,i64 0,i64 0,i64 0]):=IsObj.made ww0 [i64 0,i64 0,i64 0,i64 0,i64 0] 122
   have Hsx : Hid (w1.heap.size ≤ ww0.heap.size):=HG.out.size
   replace HG:=zI2 (zAA HG.out hb)
   clear hb
   generalize ww0.alloc (.cells #[i64 0,i64 0,i64 0,i64 0,i64 0] 122) = ww1 at HG Hx ⊢
   generalize ww0.heap.size = bx at Hx Hsx ⊢
   refine hK.out _ _ HG.out (fun _=>?_)
   (try simp only [Act.put,qset])
   clear hK K
   try clear ww0
   refine ⟨?_, ?_⟩
   ·refine runT rfl (fun K hK=>?_)
    go_simp
    go_at_call 64
    refine (zAN e.old _ HFE.out.o0 HFE.out.o1).mono ?_
    rintro r ww2 ⟨rfl,hb⟩
    (try go_wp2_with fail)
    replace Hx:=zI2 (Hx.out.later hb)
    replace HG:=zI2 (zAA HG.out hb)
    clear hb
    refine hK.out _ _ HG.out (fun _=>?_)
    (try simp only [Act.put,qset])
    clear hK K
    try clear ww1
    refine ⟨?_, ?_⟩
    ·refine runT rfl (fun K hK=>?_)
     go_simp
     go_at_call 64
     refine (zAN e.new _ HFE.out.n0 HFE.out.n1).mono ?_
     rintro r ww3 ⟨rfl,hb⟩
     (try go_wp2_with fail)
     replace Hx:=zI2 (Hx.out.later hb)
     replace HG:=zI2 (zAA HG.out hb)
     clear hb
     refine hK.out _ _ HG.out (fun _=>?_)
     (try simp only [Act.put,qset])
     clear hK K
     try clear ww2
     refine runT rfl (fun K hK=>?_)
     go_simp
     have hb:=zAB (Below.refl ww3.heap.size ww3) (.cells #[i64 0,i64 0,i64 0,i64 0,i64 0] 122)
     have Hv : Hid (IsObj (ww3.alloc (.cells #[i64 0,i64 0,i64 0,i64 0,i64 0] 122)) ww3.heap.size [i64 0,i64 0,i64 0,i64 0,i64 0]):=IsObj.made ww3 [i64 0,i64 0,i64 0,i64 0,i64 0] 122
     have Hnevx : Hid (ww3.heap.size ≠ bx):=by have:=Hx.out.lt; show _ ≠ _; omega
     replace Hx:=zI2 (Hx.out.later hb)
     have Hsv : Hid (w1.heap.size ≤ ww3.heap.size):=HG.out.size
     replace HG:=zI2 (zAA HG.out hb)
     clear hb
     generalize ww3.alloc (.cells #[i64 0,i64 0,i64 0,i64 0,i64 0] 122) = ww4 at HG Hv Hx ⊢
     generalize ww3.heap.size = bv at Hv Hsv Hnevx ⊢
     refine hK.out _ _ HG.out (fun _=>?_)
     (try simp only [Act.put,qset])
     clear hK K
     try clear ww3
     refine runT rfl (fun K hK=>?_)
     have q0:=Hv.out.at' 0 _ rfl
     have q1:=Hv.out.at' 1 _ rfl
     have q2:=Hv.out.at' 2 _ rfl
     have q3:=Hv.out.at' 3 _ rfl
     have q4:=Hv.out.at' 4 _ rfl
     have f0:=Hv.out.fz 0
     have f1:=Hv.out.fz 1
     have f2:=Hv.out.fz 2
     have f3:=Hv.out.fz 3
     have f4:=Hv.out.fz 4
     go_simp
     clear q0 q1 q2 q3 q4 f0 f1 f2 f3 f4
     obtain ⟨g1,g2,g3⟩:=aset5 HG.out Hv.out Hsv.out (i64 (e.old % 4)) (i64 (e.old / 4 % 2)) (i64 (e.old / 8 % 8192)) (i64 (e.old / 65536 % 16777216)) (i64 (e.old / 1099511627776))
     replace HG:=zI2 g1
     replace Hv:=zI2 g2
     replace Hx:=zI2 (g3 _ _ Hx.out Hnevx.out)
     clear g1 g2 g3
     generalize ((((ww4.setCell ⟨bv,0,none⟩ (i64 (e.old % 4))).setCell ⟨bv,1,none⟩ (i64 (e.old / 4 % 2))).setCell ⟨bv,2,none⟩ (i64 (e.old / 8 % 8192))).setCell ⟨bv,3,none⟩ (i64 (e.old / 65536 % 16777216))).setCell ⟨bv,4,none⟩ (i64 (e.old / 1099511627776)) = wy0 at HG Hx Hv ⊢
     refine hK.out _ _ HG.out (fun _=>?_)
     (try simp only [Act.put,qset])
     clear hK K
     refine runT rfl (fun K hK=>?_)
     have q0:=Hx.out.at' 0 _ rfl
     have q1:=Hx.out.at' 1 _ rfl
     have q2:=Hx.out.at' 2 _ rfl
     have q3:=Hx.out.at' 3 _ rfl
     have q4:=Hx.out.at' 4 _ rfl
     have f0:=Hx.out.fz 0
     have f1:=Hx.out.fz 1
     have f2:=Hx.out.fz 2
     have f3:=Hx.out.fz 3
     have f4:=Hx.out.fz 4
     go_simp
     clear q0 q1 q2 q3 q4 f0 f1 f2 f3 f4
     obtain ⟨g1,g2,g3⟩:=aset5 HG.out Hx.out Hsx.out (i64 (e.new % 4)) (i64 (e.new / 4 % 2)) (i64 (e.new / 8 % 8192)) (i64 (e.new / 65536 % 16777216)) (i64 (e.new / 1099511627776))
     replace HG:=zI2 g1
     replace Hx:=zI2 g2
     replace Hv:=zI2 (g3 _ _ Hv.out (fun e=>Hnevx.out e.symm))
     clear g1 g2 g3
     generalize ((((wy0.setCell ⟨bx,0,none⟩ (i64 (e.new % 4))).setCell ⟨bx,1,none⟩ (i64 (e.new / 4 % 2))).setCell ⟨bx,2,none⟩ (i64 (e.new / 8 % 8192))).setCell ⟨bx,3,none⟩ (i64 (e.new / 65536 % 16777216))).setCell ⟨bx,4,none⟩ (i64 (e.new / 1099511627776)) = wy1 at HG Hx Hv ⊢
     refine hK.out _ _ HG.out (fun _=>?_)
     (try simp only [Act.put,qset])
     clear hK K
     refine zAO ?_
     go_wp2_with fail
     go_meet
     exact ⟨bv,bx,rfl,rfl,Hv,Hx,HG⟩
    ·refine runT rfl (fun K hK=>?_)
     go_simp
     have hb:=zAB (Below.refl ww2.heap.size ww2) (.cells #[i64 0,i64 0,i64 0,i64 0,i64 0] 122)
     have Hv : Hid (IsObj (ww2.alloc (.cells #[i64 0,i64 0,i64 0,i64 0,i64 0] 122)) ww2.heap.size [i64 0,i64 0,i64 0,i64 0,i64 0]):=IsObj.made ww2 [i64 0,i64 0,i64 0,i64 0,i64 0] 122
     have Hnevx : Hid (ww2.heap.size ≠ bx):=by have:=Hx.out.lt; show _ ≠ _; omega
     replace Hx:=zI2 (Hx.out.later hb)
     have Hsv : Hid (w1.heap.size ≤ ww2.heap.size):=HG.out.size
     replace HG:=zI2 (zAA HG.out hb)
     clear hb
     generalize ww2.alloc (.cells #[i64 0,i64 0,i64 0,i64 0,i64 0] 122) = ww3 at HG Hv Hx ⊢
     generalize ww2.heap.size = bv at Hv Hsv Hnevx ⊢
     refine hK.out _ _ HG.out (fun _=>?_)
     (try simp only [Act.put,qset])
     clear hK K
     try clear ww2
     refine runT rfl (fun K hK=>?_)
     go_simp
     go_at_call 64
     refine (zAN e.new _ HFE.out.n0 HFE.out.n1).mono ?_
     rintro r ww4 ⟨rfl,hb⟩
     (try go_wp2_with fail)
     replace Hx:=zI2 (Hx.out.later hb)
     replace Hv:=zI2 (Hv.out.later hb)
     replace HG:=zI2 (zAA HG.out hb)
     clear hb
     refine hK.out _ _ HG.out (fun _=>?_)
     (try simp only [Act.put,qset])
     clear hK K
     try clear ww3
     refine runT rfl (fun K hK=>?_)
     have q0:=Hv.out.at' 0 _ rfl
     have q1:=Hv.out.at' 1 _ rfl
     have q2:=Hv.out.at' 2 _ rfl
     have q3:=Hv.out.at' 3 _ rfl
     have q4:=Hv.out.at' 4 _ rfl
     have f0:=Hv.out.fz 0
     have f1:=Hv.out.fz 1
     have f2:=Hv.out.fz 2
     have f3:=Hv.out.fz 3
     have f4:=Hv.out.fz 4
     go_simp
     clear q0 q1 q2 q3 q4 f0 f1 f2 f3 f4
     obtain ⟨g1,g2,g3⟩:=aset5 HG.out Hv.out Hsv.out (i64 (e.old % 4)) (i64 (e.old / 4 % 2)) (i64 (e.old / 8 % 8192)) (i64 (e.old / 65536 % 16777216)) (i64 (e.old / 1099511627776))
     replace HG:=zI2 g1
     replace Hv:=zI2 g2
     replace Hx:=zI2 (g3 _ _ Hx.out Hnevx.out)
     clear g1 g2 g3
     generalize ((((ww4.setCell ⟨bv,0,none⟩ (i64 (e.old % 4))).setCell ⟨bv,1,none⟩ (i64 (e.old / 4 % 2))).setCell ⟨bv,2,none⟩ (i64 (e.old / 8 % 8192))).setCell ⟨bv,3,none⟩ (i64 (e.old / 65536 % 16777216))).setCell ⟨bv,4,none⟩ (i64 (e.old / 1099511627776)) = wy0 at HG Hx Hv ⊢
     refine hK.out _ _ HG.out (fun _=>?_)
     (try simp only [Act.put,qset])
     clear hK K
     refine runT rfl (fun K hK=>?_)
     have q0:=Hx.out.at' 0 _ rfl
     have q1:=Hx.out.at' 1 _ rfl
     have q2:=Hx.out.at' 2 _ rfl
     have q3:=Hx.out.at' 3 _ rfl
     have q4:=Hx.out.at' 4 _ rfl
     have f0:=Hx.out.fz 0
     have f1:=Hx.out.fz 1
     have f2:=Hx.out.fz 2
     have f3:=Hx.out.fz 3
     have f4:=Hx.out.fz 4
     go_simp
     clear q0 q1 q2 q3 q4 f0 f1 f2 f3 f4
     obtain ⟨g1,g2,g3⟩:=aset5 HG.out Hx.out Hsx.out (i64 (e.new % 4)) (i64 (e.new / 4 % 2)) (i64 (e.new / 8 % 8192)) (i64 (e.new / 65536 % 16777216)) (i64 (e.new / 1099511627776))
     replace HG:=zI2 g1
     replace Hx:=zI2 g2
     replace Hv:=zI2 (g3 _ _ Hv.out (fun e=>Hnevx.out e.symm))
     clear g1 g2 g3
     generalize ((((wy0.setCell ⟨bx,0,none⟩ (i64 (e.new % 4))).setCell ⟨bx,1,none⟩ (i64 (e.new / 4 % 2))).setCell ⟨bx,2,none⟩ (i64 (e.new / 8 % 8192))).setCell ⟨bx,3,none⟩ (i64 (e.new / 65536 % 16777216))).setCell ⟨bx,4,none⟩ (i64 (e.new / 1099511627776)) = wy1 at HG Hx Hv ⊢
     refine hK.out _ _ HG.out (fun _=>?_)
     (try simp only [Act.put,qset])
     clear hK K
     refine zAO ?_
     go_wp2_with fail
     go_meet
     exact ⟨bv,bx,rfl,rfl,Hv,Hx,HG⟩
   ·refine runT rfl (fun K hK=>?_)
    go_simp
    have hb:=zAB (Below.refl ww1.heap.size ww1) (.cells #[i64 0,i64 0,i64 0,i64 0,i64 0] 122)
    have Hv : Hid (IsObj (ww1.alloc (.cells #[i64 0,i64 0,i64 0,i64 0,i64 0] 122)) ww1.heap.size [i64 0,i64 0,i64 0,i64 0,i64 0]):=IsObj.made ww1 [i64 0,i64 0,i64 0,i64 0,i64 0] 122
    have Hnevx : Hid (ww1.heap.size ≠ bx):=by have:=Hx.out.lt; show _ ≠ _; omega
    replace Hx:=zI2 (Hx.out.later hb)
    have Hsv : Hid (w1.heap.size ≤ ww1.heap.size):=HG.out.size
    replace HG:=zI2 (zAA HG.out hb)
    clear hb
    generalize ww1.alloc (.cells #[i64 0,i64 0,i64 0,i64 0,i64 0] 122) = ww2 at HG Hv Hx ⊢
    generalize ww1.heap.size = bv at Hv Hsv Hnevx ⊢
    refine hK.out _ _ HG.out (fun _=>?_)
    (try simp only [Act.put,qset])
    clear hK K
    try clear ww1
    refine runT rfl (fun K hK=>?_)
    go_simp
    go_at_call 64
    refine (zAN e.old _ HFE.out.o0 HFE.out.o1).mono ?_
    rintro r ww3 ⟨rfl,hb⟩
    (try go_wp2_with fail)
    replace Hx:=zI2 (Hx.out.later hb)
    replace Hv:=zI2 (Hv.out.later hb)
    replace HG:=zI2 (zAA HG.out hb)
    clear hb
    refine hK.out _ _ HG.out (fun _=>?_)
    (try simp only [Act.put,qset])
    clear hK K
    try clear ww2
    refine runT rfl (fun K hK=>?_)
    go_simp
    go_at_call 64
    refine (zAN e.new _ HFE.out.n0 HFE.out.n1).mono ?_
    rintro r ww4 ⟨rfl,hb⟩
    (try go_wp2_with fail)
    replace Hx:=zI2 (Hx.out.later hb)
    replace Hv:=zI2 (Hv.out.later hb)
    replace HG:=zI2 (zAA HG.out hb)
    clear hb
    refine hK.out _ _ HG.out (fun _=>?_)
    (try simp only [Act.put,qset])
    clear hK K
    try clear ww3
    refine runT rfl (fun K hK=>?_)
    have q0:=Hv.out.at' 0 _ rfl
    have q1:=Hv.out.at' 1 _ rfl
    have q2:=Hv.out.at' 2 _ rfl
    have q3:=Hv.out.at' 3 _ rfl
    have q4:=Hv.out.at' 4 _ rfl
    have f0:=Hv.out.fz 0
    have f1:=Hv.out.fz 1
    have f2:=Hv.out.fz 2
    have f3:=Hv.out.fz 3
    have f4:=Hv.out.fz 4
    go_simp
    clear q0 q1 q2 q3 q4 f0 f1 f2 f3 f4
    obtain ⟨g1,g2,g3⟩:=aset5 HG.out Hv.out Hsv.out (i64 (e.old % 4)) (i64 (e.old / 4 % 2)) (i64 (e.old / 8 % 8192)) (i64 (e.old / 65536 % 16777216)) (i64 (e.old / 1099511627776))
    replace HG:=zI2 g1
    replace Hv:=zI2 g2
    replace Hx:=zI2 (g3 _ _ Hx.out Hnevx.out)
    clear g1 g2 g3
    generalize ((((ww4.setCell ⟨bv,0,none⟩ (i64 (e.old % 4))).setCell ⟨bv,1,none⟩ (i64 (e.old / 4 % 2))).setCell ⟨bv,2,none⟩ (i64 (e.old / 8 % 8192))).setCell ⟨bv,3,none⟩ (i64 (e.old / 65536 % 16777216))).setCell ⟨bv,4,none⟩ (i64 (e.old / 1099511627776)) = wy0 at HG Hx Hv ⊢
    refine hK.out _ _ HG.out (fun _=>?_)
    (try simp only [Act.put,qset])
    clear hK K
    refine runT rfl (fun K hK=>?_)
    have q0:=Hx.out.at' 0 _ rfl
    have q1:=Hx.out.at' 1 _ rfl
    have q2:=Hx.out.at' 2 _ rfl
    have q3:=Hx.out.at' 3 _ rfl
    have q4:=Hx.out.at' 4 _ rfl
    have f0:=Hx.out.fz 0
    have f1:=Hx.out.fz 1
    have f2:=Hx.out.fz 2
    have f3:=Hx.out.fz 3
    have f4:=Hx.out.fz 4
    go_simp
    clear q0 q1 q2 q3 q4 f0 f1 f2 f3 f4
    obtain ⟨g1,g2,g3⟩:=aset5 HG.out Hx.out Hsx.out (i64 (e.new % 4)) (i64 (e.new / 4 % 2)) (i64 (e.new / 8 % 8192)) (i64 (e.new / 65536 % 16777216)) (i64 (e.new / 1099511627776))
    replace HG:=zI2 g1
    replace Hx:=zI2 g2
    replace Hv:=zI2 (g3 _ _ Hv.out (fun e=>Hnevx.out e.symm))
    clear g1 g2 g3
    generalize ((((wy0.setCell ⟨bx,0,none⟩ (i64 (e.new % 4))).setCell ⟨bx,1,none⟩ (i64 (e.new / 4 % 2))).setCell ⟨bx,2,none⟩ (i64 (e.new / 8 % 8192))).setCell ⟨bx,3,none⟩ (i64 (e.new / 65536 % 16777216))).setCell ⟨bx,4,none⟩ (i64 (e.new / 1099511627776)) = wy1 at HG Hx Hv ⊢
    refine hK.out _ _ HG.out (fun _=>?_)
    (try simp only [Act.put,qset])
    clear hK K
    refine zAO ?_
    go_wp2_with fail
    go_meet
    exact ⟨bv,bx,rfl,rfl,Hv,Hx,HG⟩
 case rest =>
  obtain ⟨bv,bx,rfl,rfl,Hv,Hx,HG⟩:=hcut
  clear e0 e1 e2 e3 e4 e5
  have HB2:=zI2 (zAA HB0.out HG.out)
  have HO2:=zI2 (HO.out.later HG.out)
  have HW2:=zI2 (HW.out.later HG.out)
  clear HG HO HW HB0
  obtain ⟨a0,ha0⟩ : ∃ z,e.old % 4 = z:=⟨_,rfl⟩
  obtain ⟨a1,ha1⟩ : ∃ z,e.old / 4 % 2 = z:=⟨_,rfl⟩
  obtain ⟨a2,ha2⟩ : ∃ z,e.old / 8 % 8192 = z:=⟨_,rfl⟩
  obtain ⟨a3,ha3⟩ : ∃ z,e.old / 65536 % 16777216 = z:=⟨_,rfl⟩
  obtain ⟨a4,ha4⟩ : ∃ z,e.old / 1099511627776 = z:=⟨_,rfl⟩
  obtain ⟨b0,hb0⟩ : ∃ z,e.new % 4 = z:=⟨_,rfl⟩
  obtain ⟨b1,hb1⟩ : ∃ z,e.new / 4 % 2 = z:=⟨_,rfl⟩
  obtain ⟨b2,hb2⟩ : ∃ z,e.new / 8 % 8192 = z:=⟨_,rfl⟩
  obtain ⟨b3,hb3⟩ : ∃ z,e.new / 65536 % 16777216 = z:=⟨_,rfl⟩
  obtain ⟨b4,hb4⟩ : ∃ z,e.new / 1099511627776 = z:=⟨_,rfl⟩
  have ha2r : 0 ≤ a2 ∧ a2 ≤ 8191:=by omega
  have hv:=Hv.out
  have hx:=Hx.out
  simp only [ha0,ha1,ha2,ha3,ha4] at hv
  simp only [hb0,hb1,hb2,hb3,hb4] at hx
  have HV:=zI2 hv
  have HX:=zI2 hx
  clear hv hx Hv Hx
  obtain ⟨e0,e1,e2,e3,e4,e5⟩ : _ ∧ _ ∧ _ ∧ _ ∧ _ ∧ _:=⟨HO2.out.at' 0 _ rfl,HO2.out.at' 1 _ rfl,HO2.out.at' 2 _ rfl,HO2.out.at' 3 _ rfl,HO2.out.at' 4 _ rfl,HO2.out.at' 5 _ rfl⟩
  obtain ⟨q0,q1,q2,q3,q4,q5⟩ : _ ∧ _ ∧ _ ∧ _ ∧ _ ∧ _:=⟨HW2.out.obj.at' 0 _ rfl,HW2.out.obj.at' 1 _ rfl,HW2.out.obj.at' 2 _ rfl,HW2.out.obj.at' 3 _ rfl,HW2.out.obj.at' 4 _ rfl,HW2.out.obj.at' 5 _ rfl⟩
  obtain ⟨u0,u1,u2,u3,u4⟩ : _ ∧ _ ∧ _ ∧ _ ∧ _:=⟨HV.out.at' 0 _ rfl,HV.out.at' 1 _ rfl,HV.out.at' 2 _ rfl,HV.out.at' 3 _ rfl,HV.out.at' 4 _ rfl⟩
  obtain ⟨v0,v1,v2,v3,v4⟩ : _ ∧ _ ∧ _ ∧ _ ∧ _:=⟨HX.out.at' 0 _ rfl,HX.out.at' 1 _ rfl,HX.out.at' 2 _ rfl,HX.out.at' 3 _ rfl,HX.out.at' 4 _ rfl⟩
  have y8 : IntKind.i64.wrap (a2 + 1) = a2 + 1:=IntWalk.i64_in _ (by omega)
  have y9 : wrap64 (a2 + 1) = a2 + 1:=by unfold wrap64; omega
  rcases (show ((e.op = 0)) ∨ ((e.op = 1) ∧ (e.who ≠ e.cell / s)) ∨ ((e.op = 1) ∧ (e.who = e.cell / s) ∧ (a0 = 1)) ∨ ((e.op = 1) ∧ (e.who = e.cell / s) ∧ (a0 ≠ 1) ∧ (b0 ≠ 1)) ∨ ((e.op = 1) ∧ (e.who = e.cell / s) ∧ (a0 ≠ 1) ∧ (b0 = 1) ∧ (b2 ≠ a2 + 1)) ∨ ((e.op = 1) ∧ (e.who = e.cell / s) ∧ (a0 ≠ 1) ∧ (b0 = 1) ∧ (b2 = a2 + 1) ∧ (¬ (b3 ≤ b4 ∧ b4 < 16777215))) ∨ ((e.op = 1) ∧ (e.who = e.cell / s) ∧ (a0 ≠ 1) ∧ (b0 = 1) ∧ (b2 = a2 + 1) ∧ (b3 ≤ b4 ∧ b4 < 16777215)) ∨ ((e.op = 2) ∧ (e.ok = false)) ∨ ((e.op = 2) ∧ (e.ok = true) ∧ (a0 ≠ 1)) ∨ ((e.op = 2) ∧ (e.ok = true) ∧ (a0 = 1) ∧ (b0 ≠ 2)) ∨ ((e.op = 2) ∧ (e.ok = true) ∧ (a0 = 1) ∧ (b0 = 2) ∧ (b1 ≠ a1)) ∨ ((e.op = 2) ∧ (e.ok = true) ∧ (a0 = 1) ∧ (b0 = 2) ∧ (b1 = a1) ∧ (b2 ≠ a2)) ∨ ((e.op = 2) ∧ (e.ok = true) ∧ (a0 = 1) ∧ (b0 = 2) ∧ (b1 = a1) ∧ (b2 = a2) ∧ (b3 ≠ a3)) ∨ ((e.op = 2) ∧ (e.ok = true) ∧ (a0 = 1) ∧ (b0 = 2) ∧ (b1 = a1) ∧ (b2 = a2) ∧ (b3 = a3) ∧ (b4 ≠ a4)) ∨ ((e.op = 2) ∧ (e.ok = true) ∧ (a0 = 1) ∧ (b0 = 2) ∧ (b1 = a1) ∧ (b2 = a2) ∧ (b3 = a3) ∧ (b4 = a4)) ∨ ((e.op ≠ 0) ∧ (e.op ≠ 1) ∧ (e.op ≠ 2)) from by
    by_cases k0 : e.op = 0
    ·exact .inl k0
    by_cases k1 : e.op = 1
    ·by_cases m1 : e.who = e.cell / s <;> by_cases m2 : a0 = 1 <;> by_cases m3 : b0 = 1 <;> by_cases m4 : b2 = a2 + 1 <;> by_cases m5 : b3 ≤ b4 ∧ b4 < 16777215 <;> simp [k1,m1,m2,m3,m4,m5]
    by_cases k2 : e.op = 2
    ·cases m0 : e.ok <;> by_cases m2 : a0 = 1 <;> by_cases m3 : b0 = 2 <;> by_cases m4 : b1 = a1 <;> by_cases m5 : b2 = a2 <;> by_cases m6 : b3 = a3 <;> by_cases m7 : b4 = a4 <;> simp [k2,m2,m3,m4,m5,m6,m7]
    ·simp [k0,k1,k2]) with gop | ⟨gop,g1⟩ | ⟨gop,g1,g2⟩ | ⟨gop,g1,g2,g3⟩ | ⟨gop,g1,g2,g3,g4⟩ | ⟨gop,g1,g2,g3,g4,g5⟩ | ⟨gop,g1,g2,g3,g4,g5⟩ | ⟨gop,gk⟩ | ⟨gop,gk,g2⟩ | ⟨gop,gk,g2,g3⟩ | ⟨gop,gk,g2,g3,g4⟩ | ⟨gop,gk,g2,g3,g4,g5⟩ | ⟨gop,gk,g2,g3,g4,g5,g6⟩ | ⟨gop,gk,g2,g3,g4,g5,g6,g7⟩ | ⟨gop,gk,g2,g3,g4,g5,g6,g7⟩ | ⟨gn0,gn1,gn2⟩
  ·obtain rfl : b = true:=hb.2 (.inl gop)
   have z0 : (e.op == 0) = true:=by simp [gop]
   have z1 : (e.op == 1) = false:=by simp [gop]
   have z2 : (e.op == 2) = false:=by simp [gop]
   have z3 : (e.op == 3) = false:=by simp [gop]
   clear hb ha0 ha1 ha2 ha3 ha4 hb0 hb1 hb2 hb3 hb4 gop
   go_wp2_with fail
   go_ret
   exact ⟨rfl,HB2.out⟩
  ·obtain rfl : b = false:=by
    cases b with
    | false=>rfl
    | true =>
     rcases hb.1 rfl with q | ⟨q1,q2,q3,q4,q5,q6,q7⟩ | ⟨q1,q2 | ⟨q2,q3,q4,q5,q6,q7⟩⟩
     ·omega
     ·exact absurd q2 g1
     ·omega
     ·omega
   have z0 : (e.op == 0) = false:=by simp [gop]
   have z1 : (e.op == 1) = true:=by simp [gop]
   have z2 : (e.op == 2) = false:=by simp [gop]
   have z3 : (e.op == 3) = false:=by simp [gop]
   have ow : (e.who == e.cell / s) = false:=beq_false_of_ne g1
   clear hb ha0 ha1 ha2 ha3 ha4 hb0 hb1 hb2 hb3 hb4 gop g1
   go_wp2_with fail
   refine zAJ ((0,true) :: (1,true) :: (2,true) :: (3,true) :: (4,true) :: (5,true) :: (6,true) :: (7,false) :: (8,true) :: (9,true) :: (10,true) :: (11,true) :: (12,true) :: (13,true) :: (14,true) :: (15,true) :: (16,true) :: (17,true) :: (18,true) :: (19,true) :: (20,true) :: (21,false) :: (22,true) :: (23,true) :: (24,true) :: (25,true) :: (26,true) :: (27,false) :: (28,true) :: (29,true) :: []) (by kernel_rfl) (by kernel_rfl) (by kernel_rfl) (by decide) (fun _ _ _ _ _ h=>h) (fun hHeld=>?_)
   iterate 7 (first | (refine zAC (v := ?_) rfl ?_ ?_ ?_; rotate_left 1; rfl; (focus (intro wS hSw; have hk:=zAE hSw; go_simp; first | done | with_reducible rfl)); (try simp only [Act.put,qset])) | (refine zAD rfl ?_ ?_; rfl; (try simp only [Act.put,qset])))
   refine zAG rfl (fun K hK=>?_)
   go_simp
   go_at_call 112
   refine (zAh t s so d N e.cell _ HLA.out c3 c6).mono ?_
   rintro r w9 ⟨rfl,hb'⟩
   (try go_wp2_with fail)
   refine hK.out _ _ (zAA hHeld hb') ?_
   replace hHeld:=zAA hHeld hb'
   clear hb' hK K
   intro _
   (try simp only [Act.put,qset])
   iterate 13 (first | (refine zAC (v := ?_) rfl ?_ ?_ ?_; rotate_left 1; rfl; (focus (intro wS hSw; have hk:=zAE hSw; go_simp; first | done | with_reducible rfl)); (try simp only [Act.put,qset])) | (refine zAD rfl ?_ ?_; rfl; (try simp only [Act.put,qset])))
   refine zAG rfl (fun K hK=>?_)
   go_simp
   refine hK.out _ _ hHeld (fun _=>?_)
   (try simp only [Act.put,qset])
   clear hK K
   iterate 5 (first | (refine zAC (v := ?_) rfl ?_ ?_ ?_; rotate_left 1; rfl; (focus (intro wS hSw; have hk:=zAE hSw; go_simp; first | done | with_reducible rfl)); (try simp only [Act.put,qset])) | (refine zAD rfl ?_ ?_; rfl; (try simp only [Act.put,qset])))
   refine zAG rfl (fun K hK=>?_)
   go_simp
   refine hK.out _ _ hHeld (fun _=>?_)
   (try simp only [Act.put,qset])
   clear hK K
   iterate 2 (first | (refine zAC (v := ?_) rfl ?_ ?_ ?_; rotate_left 1; rfl; (focus (intro wS hSw; have hk:=zAE hSw; go_simp; first | done | with_reducible rfl)); (try simp only [Act.put,qset])) | (refine zAD rfl ?_ ?_; rfl; (try simp only [Act.put,qset])))
   refine zAI ?_
   go_wp2_with fail
   go_ret
   exact ⟨rfl,zAA HB2.out hHeld⟩
  ·obtain rfl : b = false:=by
    cases b with
    | false=>rfl
    | true =>
     rcases hb.1 rfl with q | ⟨q1,q2,q3,q4,q5,q6,q7⟩ | ⟨q1,q2 | ⟨q2,q3,q4,q5,q6,q7⟩⟩
     ·omega
     ·omega
     ·omega
     ·omega
   have z0 : (e.op == 0) = false:=by simp [gop]
   have z1 : (e.op == 1) = true:=by simp [gop]
   have z2 : (e.op == 2) = false:=by simp [gop]
   have z3 : (e.op == 3) = false:=by simp [gop]
   have ow : (e.who == e.cell / s) = true:=beq_iff_eq.2 g1
   have os : (a0 != 1) = false:=by simp [g2]
   clear hb ha0 ha1 ha2 ha3 ha4 hb0 hb1 hb2 hb3 hb4 gop g1 g2
   go_wp2_with fail
   refine zAJ ((0,true) :: (1,true) :: (2,true) :: (3,true) :: (4,true) :: (5,true) :: (6,true) :: (7,false) :: (8,true) :: (9,true) :: (10,true) :: (11,true) :: (12,true) :: (13,true) :: (14,true) :: (15,true) :: (16,true) :: (17,true) :: (18,true) :: (19,true) :: (20,true) :: (21,false) :: (22,true) :: (23,true) :: (24,true) :: (25,true) :: (26,true) :: (27,false) :: (28,true) :: (29,true) :: []) (by kernel_rfl) (by kernel_rfl) (by kernel_rfl) (by decide) (fun _ _ _ _ _ h=>h) (fun hHeld=>?_)
   iterate 7 (first | (refine zAC (v := ?_) rfl ?_ ?_ ?_; rotate_left 1; rfl; (focus (intro wS hSw; have hk:=zAE hSw; go_simp; first | done | with_reducible rfl)); (try simp only [Act.put,qset])) | (refine zAD rfl ?_ ?_; rfl; (try simp only [Act.put,qset])))
   refine zAG rfl (fun K hK=>?_)
   go_simp
   go_at_call 112
   refine (zAh t s so d N e.cell _ HLA.out c3 c6).mono ?_
   rintro r w9 ⟨rfl,hb'⟩
   (try go_wp2_with fail)
   refine hK.out _ _ (zAA hHeld hb') ?_
   replace hHeld:=zAA hHeld hb'
   clear hb' hK K
   intro _
   (try simp only [Act.put,qset])
   iterate 13 (first | (refine zAC (v := ?_) rfl ?_ ?_ ?_; rotate_left 1; rfl; (focus (intro wS hSw; have hk:=zAE hSw; go_simp; first | done | with_reducible rfl)); (try simp only [Act.put,qset])) | (refine zAD rfl ?_ ?_; rfl; (try simp only [Act.put,qset])))
   refine zAG rfl (fun K hK=>?_)
   go_simp
   refine hK.out _ _ hHeld (fun _=>?_)
   (try simp only [Act.put,qset])
   clear hK K
   iterate 5 (first | (refine zAC (v := ?_) rfl ?_ ?_ ?_; rotate_left 1; rfl; (focus (intro wS hSw; have hk:=zAE hSw; go_simp; first | done | with_reducible rfl)); (try simp only [Act.put,qset])) | (refine zAD rfl ?_ ?_; rfl; (try simp only [Act.put,qset])))
   refine zAG rfl (fun K hK=>?_)
   go_simp
   refine hK.out _ _ hHeld (fun _=>?_)
   (try simp only [Act.put,qset])
   clear hK K
   iterate 2 (first | (refine zAC (v := ?_) rfl ?_ ?_ ?_; rotate_left 1; rfl; (focus (intro wS hSw; have hk:=zAE hSw; go_simp; first | done | with_reducible rfl)); (try simp only [Act.put,qset])) | (refine zAD rfl ?_ ?_; rfl; (try simp only [Act.put,qset])))
   refine zAI ?_
   go_wp2_with fail
   go_ret
   exact ⟨rfl,zAA HB2.out hHeld⟩
  ·obtain rfl : b = false:=by
    cases b with
    | false=>rfl
    | true =>
     rcases hb.1 rfl with q | ⟨q1,q2,q3,q4,q5,q6,q7⟩ | ⟨q1,q2 | ⟨q2,q3,q4,q5,q6,q7⟩⟩
     ·omega
     ·omega
     ·omega
     ·omega
   have z0 : (e.op == 0) = false:=by simp [gop]
   have z1 : (e.op == 1) = true:=by simp [gop]
   have z2 : (e.op == 2) = false:=by simp [gop]
   have z3 : (e.op == 3) = false:=by simp [gop]
   have ow : (e.who == e.cell / s) = true:=beq_iff_eq.2 g1
   have os : (a0 != 1) = true:=bne_iff_ne.2 g2
   have fa : (b0 == 1) = false:=beq_false_of_ne g3
   clear hb ha0 ha1 ha2 ha3 ha4 hb0 hb1 hb2 hb3 hb4 gop g1 g2 g3
   go_wp2_with fail
   refine zAJ ((0,true) :: (1,true) :: (2,true) :: (3,true) :: (4,true) :: (5,true) :: (6,true) :: (7,false) :: (8,true) :: (9,true) :: (10,true) :: (11,true) :: (12,true) :: (13,true) :: (14,true) :: (15,true) :: (16,true) :: (17,true) :: (18,true) :: (19,true) :: (20,true) :: (21,false) :: (22,true) :: (23,true) :: (24,true) :: (25,true) :: (26,true) :: (27,false) :: (28,true) :: (29,true) :: []) (by kernel_rfl) (by kernel_rfl) (by kernel_rfl) (by decide) (fun _ _ _ _ _ h=>h) (fun hHeld=>?_)
   iterate 7 (first | (refine zAC (v := ?_) rfl ?_ ?_ ?_; rotate_left 1; rfl; (focus (intro wS hSw; have hk:=zAE hSw; go_simp; first | done | with_reducible rfl)); (try simp only [Act.put,qset])) | (refine zAD rfl ?_ ?_; rfl; (try simp only [Act.put,qset])))
   refine zAG rfl (fun K hK=>?_)
   go_simp
   go_at_call 112
   refine (zAh t s so d N e.cell _ HLA.out c3 c6).mono ?_
   rintro r w9 ⟨rfl,hb'⟩
   (try go_wp2_with fail)
   refine hK.out _ _ (zAA hHeld hb') ?_
   replace hHeld:=zAA hHeld hb'
   clear hb' hK K
   intro _
   (try simp only [Act.put,qset])
   iterate 13 (first | (refine zAC (v := ?_) rfl ?_ ?_ ?_; rotate_left 1; rfl; (focus (intro wS hSw; have hk:=zAE hSw; go_simp; first | done | with_reducible rfl)); (try simp only [Act.put,qset])) | (refine zAD rfl ?_ ?_; rfl; (try simp only [Act.put,qset])))
   refine zAG rfl (fun K hK=>?_)
   go_simp
   go_at_call 113
   refine (zBk a0 a1 a2 a3 a4 b1 b3 b4 _).mono ?_
   rintro r w9 ⟨rfl,hb'⟩
   (try go_wp2_with fail)
   refine hK.out _ _ (zAA hHeld hb') ?_
   replace hHeld:=zAA hHeld hb'
   clear hb' hK K
   intro _
   (try simp only [Act.put,qset])
   iterate 5 (first | (refine zAC (v := ?_) rfl ?_ ?_ ?_; rotate_left 1; rfl; (focus (intro wS hSw; have hk:=zAE hSw; go_simp; first | done | with_reducible rfl)); (try simp only [Act.put,qset])) | (refine zAD rfl ?_ ?_; rfl; (try simp only [Act.put,qset])))
   refine zAG rfl (fun K hK=>?_)
   go_simp
   refine hK.out _ _ hHeld (fun _=>?_)
   (try simp only [Act.put,qset])
   clear hK K
   iterate 2 (first | (refine zAC (v := ?_) rfl ?_ ?_ ?_; rotate_left 1; rfl; (focus (intro wS hSw; have hk:=zAE hSw; go_simp; first | done | with_reducible rfl)); (try simp only [Act.put,qset])) | (refine zAD rfl ?_ ?_; rfl; (try simp only [Act.put,qset])))
   refine zAI ?_
   go_wp2_with fail
   go_ret
   exact ⟨rfl,zAA HB2.out hHeld⟩
  ·obtain rfl : b = false:=by
    cases b with
    | false=>rfl
    | true =>
     rcases hb.1 rfl with q | ⟨q1,q2,q3,q4,q5,q6,q7⟩ | ⟨q1,q2 | ⟨q2,q3,q4,q5,q6,q7⟩⟩
     ·omega
     ·omega
     ·omega
     ·omega
   have z0 : (e.op == 0) = false:=by simp [gop]
   have z1 : (e.op == 1) = true:=by simp [gop]
   have z2 : (e.op == 2) = false:=by simp [gop]
   have z3 : (e.op == 3) = false:=by simp [gop]
   have ow : (e.who == e.cell / s) = true:=beq_iff_eq.2 g1
   have os : (a0 != 1) = true:=bne_iff_ne.2 g2
   have fa : (b0 == 1) = true:=beq_iff_eq.2 g3
   have fb : (b2 == a2 + 1) = false:=beq_false_of_ne g4
   clear hb ha0 ha1 ha2 ha3 ha4 hb0 hb1 hb2 hb3 hb4 gop g1 g2 g3 g4
   go_wp2_with fail
   refine zAJ ((0,true) :: (1,true) :: (2,true) :: (3,true) :: (4,true) :: (5,true) :: (6,true) :: (7,false) :: (8,true) :: (9,true) :: (10,true) :: (11,true) :: (12,true) :: (13,true) :: (14,true) :: (15,true) :: (16,true) :: (17,true) :: (18,true) :: (19,true) :: (20,true) :: (21,false) :: (22,true) :: (23,true) :: (24,true) :: (25,true) :: (26,true) :: (27,false) :: (28,true) :: (29,true) :: []) (by kernel_rfl) (by kernel_rfl) (by kernel_rfl) (by decide) (fun _ _ _ _ _ h=>h) (fun hHeld=>?_)
   iterate 7 (first | (refine zAC (v := ?_) rfl ?_ ?_ ?_; rotate_left 1; rfl; (focus (intro wS hSw; have hk:=zAE hSw; go_simp; first | done | with_reducible rfl)); (try simp only [Act.put,qset])) | (refine zAD rfl ?_ ?_; rfl; (try simp only [Act.put,qset])))
   refine zAG rfl (fun K hK=>?_)
   go_simp
   go_at_call 112
   refine (zAh t s so d N e.cell _ HLA.out c3 c6).mono ?_
   rintro r w9 ⟨rfl,hb'⟩
   (try go_wp2_with fail)
   refine hK.out _ _ (zAA hHeld hb') ?_
   replace hHeld:=zAA hHeld hb'
   clear hb' hK K
   intro _
   (try simp only [Act.put,qset])
   iterate 13 (first | (refine zAC (v := ?_) rfl ?_ ?_ ?_; rotate_left 1; rfl; (focus (intro wS hSw; have hk:=zAE hSw; go_simp; first | done | with_reducible rfl)); (try simp only [Act.put,qset])) | (refine zAD rfl ?_ ?_; rfl; (try simp only [Act.put,qset])))
   refine zAG rfl (fun K hK=>?_)
   go_simp
   go_at_call 113
   refine (zBk a0 a1 a2 a3 a4 b1 b3 b4 _).mono ?_
   rintro r w9 ⟨rfl,hb'⟩
   (try go_wp2_with fail)
   refine hK.out _ _ (zAA hHeld hb') ?_
   replace hHeld:=zAA hHeld hb'
   clear hb' hK K
   intro _
   (try simp only [Act.put,qset])
   iterate 5 (first | (refine zAC (v := ?_) rfl ?_ ?_ ?_; rotate_left 1; rfl; (focus (intro wS hSw; have hk:=zAE hSw; go_simp; first | done | with_reducible rfl)); (try simp only [Act.put,qset])) | (refine zAD rfl ?_ ?_; rfl; (try simp only [Act.put,qset])))
   refine zAG rfl (fun K hK=>?_)
   go_simp
   refine hK.out _ _ hHeld (fun _=>?_)
   (try simp only [Act.put,qset])
   clear hK K
   iterate 2 (first | (refine zAC (v := ?_) rfl ?_ ?_ ?_; rotate_left 1; rfl; (focus (intro wS hSw; have hk:=zAE hSw; go_simp; first | done | with_reducible rfl)); (try simp only [Act.put,qset])) | (refine zAD rfl ?_ ?_; rfl; (try simp only [Act.put,qset])))
   refine zAI ?_
   go_wp2_with fail
   go_ret
   exact ⟨rfl,zAA HB2.out hHeld⟩
  ·obtain rfl : b = false:=by
    cases b with
    | false=>rfl
    | true =>
     rcases hb.1 rfl with q | ⟨q1,q2,q3,q4,q5,q6,q7⟩ | ⟨q1,q2 | ⟨q2,q3,q4,q5,q6,q7⟩⟩
     ·omega
     ·omega
     ·omega
     ·omega
   have z0 : (e.op == 0) = false:=by simp [gop]
   have z1 : (e.op == 1) = true:=by simp [gop]
   have z2 : (e.op == 2) = false:=by simp [gop]
   have z3 : (e.op == 3) = false:=by simp [gop]
   have ow : (e.who == e.cell / s) = true:=beq_iff_eq.2 g1
   have os : (a0 != 1) = true:=bne_iff_ne.2 g2
   have fa : (b0 == 1) = true:=beq_iff_eq.2 g3
   have fb : (b2 == a2 + 1) = true:=beq_iff_eq.2 g4
   have HR:=zI2 (show rightB b3 b4 = false from decide_eq_false (fun hh=>g5 ⟨hh.2.1,hh.2.2⟩))
   clear hb ha0 ha1 ha2 ha3 ha4 hb0 hb1 hb2 hb3 hb4 gop g1 g2 g3 g4 g5
   go_wp2_with fail
   refine zAJ ((0,true) :: (1,true) :: (2,true) :: (3,true) :: (4,true) :: (5,true) :: (6,true) :: (7,false) :: (8,true) :: (9,true) :: (10,true) :: (11,true) :: (12,true) :: (13,true) :: (14,true) :: (15,true) :: (16,true) :: (17,true) :: (18,true) :: (19,true) :: (20,true) :: (21,false) :: (22,true) :: (23,true) :: (24,true) :: (25,true) :: (26,true) :: (27,false) :: (28,true) :: (29,true) :: []) (by kernel_rfl) (by kernel_rfl) (by kernel_rfl) (by decide) (fun _ _ _ _ _ h=>h) (fun hHeld=>?_)
   iterate 7 (first | (refine zAC (v := ?_) rfl ?_ ?_ ?_; rotate_left 1; rfl; (focus (intro wS hSw; have hk:=zAE hSw; go_simp; first | done | with_reducible rfl)); (try simp only [Act.put,qset])) | (refine zAD rfl ?_ ?_; rfl; (try simp only [Act.put,qset])))
   refine zAG rfl (fun K hK=>?_)
   go_simp
   go_at_call 112
   refine (zAh t s so d N e.cell _ HLA.out c3 c6).mono ?_
   rintro r w9 ⟨rfl,hb'⟩
   (try go_wp2_with fail)
   refine hK.out _ _ (zAA hHeld hb') ?_
   replace hHeld:=zAA hHeld hb'
   clear hb' hK K
   intro _
   (try simp only [Act.put,qset])
   iterate 13 (first | (refine zAC (v := ?_) rfl ?_ ?_ ?_; rotate_left 1; rfl; (focus (intro wS hSw; have hk:=zAE hSw; go_simp; first | done | with_reducible rfl)); (try simp only [Act.put,qset])) | (refine zAD rfl ?_ ?_; rfl; (try simp only [Act.put,qset])))
   refine zAG rfl (fun K hK=>?_)
   go_simp
   go_at_call 113
   refine (zBk a0 a1 a2 a3 a4 b1 b3 b4 _).mono ?_
   rintro r w9 ⟨rfl,hb'⟩
   (try go_wp2_with fail)
   refine hK.out _ _ (zAA hHeld hb') ?_
   replace hHeld:=zAA hHeld hb'
   clear hb' hK K
   intro _
   (try simp only [Act.put,qset])
   iterate 5 (first | (refine zAC (v := ?_) rfl ?_ ?_ ?_; rotate_left 1; rfl; (focus (intro wS hSw; have hk:=zAE hSw; go_simp; first | done | with_reducible rfl)); (try simp only [Act.put,qset])) | (refine zAD rfl ?_ ?_; rfl; (try simp only [Act.put,qset])))
   refine zAG rfl (fun K hK=>?_)
   go_simp
   go_at_call 114
   refine (zBc b3 b4 _).mono ?_
   rintro r w9 ⟨rfl,hb'⟩
   rw [HR.out]
   (try go_wp2_with fail)
   refine hK.out _ _ (zAA hHeld hb') ?_
   replace hHeld:=zAA hHeld hb'
   clear hb' hK K
   intro _
   (try simp only [Act.put,qset])
   iterate 2 (first | (refine zAC (v := ?_) rfl ?_ ?_ ?_; rotate_left 1; rfl; (focus (intro wS hSw; have hk:=zAE hSw; go_simp; first | done | with_reducible rfl)); (try simp only [Act.put,qset])) | (refine zAD rfl ?_ ?_; rfl; (try simp only [Act.put,qset])))
   refine zAI ?_
   go_wp2_with fail
   go_ret
   exact ⟨rfl,zAA HB2.out hHeld⟩
  ·obtain rfl : b = true:=hb.2 (.inr (.inl (by omega)))
   have z0 : (e.op == 0) = false:=by simp [gop]
   have z1 : (e.op == 1) = true:=by simp [gop]
   have z2 : (e.op == 2) = false:=by simp [gop]
   have z3 : (e.op == 3) = false:=by simp [gop]
   have ow : (e.who == e.cell / s) = true:=beq_iff_eq.2 g1
   have os : (a0 != 1) = true:=bne_iff_ne.2 g2
   have fa : (b0 == 1) = true:=beq_iff_eq.2 g3
   have fb : (b2 == a2 + 1) = true:=beq_iff_eq.2 g4
   have HR:=zI2 (show rightB b3 b4 = true from decide_eq_true ⟨by have:=HFE.out.n0; omega,g5.1,g5.2⟩)
   clear hb ha0 ha1 ha2 ha3 ha4 hb0 hb1 hb2 hb3 hb4 gop g1 g2 g3 g4 g5
   go_wp2_with fail
   refine zAJ ((0,true) :: (1,true) :: (2,true) :: (3,true) :: (4,true) :: (5,true) :: (6,true) :: (7,false) :: (8,true) :: (9,true) :: (10,true) :: (11,true) :: (12,true) :: (13,true) :: (14,true) :: (15,true) :: (16,true) :: (17,true) :: (18,true) :: (19,true) :: (20,true) :: (21,false) :: (22,true) :: (23,true) :: (24,true) :: (25,true) :: (26,true) :: (27,false) :: (28,true) :: (29,true) :: []) (by kernel_rfl) (by kernel_rfl) (by kernel_rfl) (by decide) (fun _ _ _ _ _ h=>h) (fun hHeld=>?_)
   iterate 7 (first | (refine zAC (v := ?_) rfl ?_ ?_ ?_; rotate_left 1; rfl; (focus (intro wS hSw; have hk:=zAE hSw; go_simp; first | done | with_reducible rfl)); (try simp only [Act.put,qset])) | (refine zAD rfl ?_ ?_; rfl; (try simp only [Act.put,qset])))
   refine zAG rfl (fun K hK=>?_)
   go_simp
   go_at_call 112
   refine (zAh t s so d N e.cell _ HLA.out c3 c6).mono ?_
   rintro r w9 ⟨rfl,hb'⟩
   (try go_wp2_with fail)
   refine hK.out _ _ (zAA hHeld hb') ?_
   replace hHeld:=zAA hHeld hb'
   clear hb' hK K
   intro _
   (try simp only [Act.put,qset])
   iterate 13 (first | (refine zAC (v := ?_) rfl ?_ ?_ ?_; rotate_left 1; rfl; (focus (intro wS hSw; have hk:=zAE hSw; go_simp; first | done | with_reducible rfl)); (try simp only [Act.put,qset])) | (refine zAD rfl ?_ ?_; rfl; (try simp only [Act.put,qset])))
   refine zAG rfl (fun K hK=>?_)
   go_simp
   go_at_call 113
   refine (zBk a0 a1 a2 a3 a4 b1 b3 b4 _).mono ?_
   rintro r w9 ⟨rfl,hb'⟩
   (try go_wp2_with fail)
   refine hK.out _ _ (zAA hHeld hb') ?_
   replace hHeld:=zAA hHeld hb'
   clear hb' hK K
   intro _
   (try simp only [Act.put,qset])
   iterate 5 (first | (refine zAC (v := ?_) rfl ?_ ?_ ?_; rotate_left 1; rfl; (focus (intro wS hSw; have hk:=zAE hSw; go_simp; first | done | with_reducible rfl)); (try simp only [Act.put,qset])) | (refine zAD rfl ?_ ?_; rfl; (try simp only [Act.put,qset])))
   refine zAG rfl (fun K hK=>?_)
   go_simp
   go_at_call 114
   refine (zBc b3 b4 _).mono ?_
   rintro r w9 ⟨rfl,hb'⟩
   rw [HR.out]
   (try go_wp2_with fail)
   refine hK.out _ _ (zAA hHeld hb') ?_
   replace hHeld:=zAA hHeld hb'
   clear hb' hK K
   intro _
   (try simp only [Act.put,qset])
   iterate 2 (first | (refine zAC (v := ?_) rfl ?_ ?_ ?_; rotate_left 1; rfl; (focus (intro wS hSw; have hk:=zAE hSw; go_simp; first | done | with_reducible rfl)); (try simp only [Act.put,qset])) | (refine zAD rfl ?_ ?_; rfl; (try simp only [Act.put,qset])))
   refine zAI ?_
   go_wp2_with fail
   go_ret
   exact ⟨rfl,zAA HB2.out hHeld⟩
  ·obtain rfl : b = true:=hb.2 (.inr (.inr ⟨gop,.inl gk⟩))
   have z0 : (e.op == 0) = false:=by simp [gop]
   have z1 : (e.op == 1) = false:=by simp [gop]
   have z2 : (e.op == 2) = true:=by simp [gop]
   have z3 : (e.op == 3) = false:=by simp [gop]
   have GK:=zI2 gk
   clear hb ha0 ha1 ha2 ha3 ha4 hb0 hb1 hb2 hb3 hb4 gop gk
   rw [GK.out] at e5
   go_wp2_with fail
   refine zAJ ((0,true) :: (1,true) :: (2,true) :: (3,true) :: (4,true) :: (5,true) :: (6,true) :: (7,true) :: (8,true) :: (9,true) :: (10,false) :: (11,true) :: (12,true) :: (13,true) :: (14,true) :: []) (by kernel_rfl) (by kernel_rfl) (by kernel_rfl) (by decide) (fun _ _ _ _ _ h=>h) (fun hHeld=>?_)
   iterate 10 (first | (refine zAC (v := ?_) rfl ?_ ?_ ?_; rotate_left 1; rfl; (focus (intro wS hSw; have hk:=zAE hSw; go_simp; first | done | with_reducible rfl)); (try simp only [Act.put,qset])) | (refine zAD rfl ?_ ?_; rfl; (try simp only [Act.put,qset])))
   refine zAG rfl (fun K hK=>?_)
   go_simp
   refine hK.out _ _ hHeld (fun _=>?_)
   (try simp only [Act.put,qset])
   clear hK K
   iterate 4 (first | (refine zAC (v := ?_) rfl ?_ ?_ ?_; rotate_left 1; rfl; (focus (intro wS hSw; have hk:=zAE hSw; go_simp; first | done | with_reducible rfl)); (try simp only [Act.put,qset])) | (refine zAD rfl ?_ ?_; rfl; (try simp only [Act.put,qset])))
   refine zAI ?_
   go_wp2_with fail
   go_ret
   exact ⟨rfl,zAA HB2.out hHeld⟩
  ·obtain rfl : b = false:=by
    cases b with
    | false=>rfl
    | true =>
     rcases hb.1 rfl with q | ⟨q1,q2,q3,q4,q5,q6,q7⟩ | ⟨q1,q2 | ⟨q2,q3,q4,q5,q6,q7⟩⟩
     ·omega
     ·omega
     ·rw [gk] at q2; cases q2
     ·omega
   have z0 : (e.op == 0) = false:=by simp [gop]
   have z1 : (e.op == 1) = false:=by simp [gop]
   have z2 : (e.op == 2) = true:=by simp [gop]
   have z3 : (e.op == 3) = false:=by simp [gop]
   have GK:=zI2 gk
   have lv : (a0 == 1) = false:=beq_false_of_ne g2
   clear hb ha0 ha1 ha2 ha3 ha4 hb0 hb1 hb2 hb3 hb4 gop gk g2
   rw [GK.out] at e5
   go_wp2_with fail
   refine zAJ ((0,true) :: (1,true) :: (2,true) :: (3,true) :: (4,true) :: (5,true) :: (6,true) :: (7,true) :: (8,true) :: (9,true) :: (10,false) :: (11,true) :: (12,true) :: (13,true) :: (14,true) :: []) (by kernel_rfl) (by kernel_rfl) (by kernel_rfl) (by decide) (fun _ _ _ _ _ h=>h) (fun hHeld=>?_)
   iterate 10 (first | (refine zAC (v := ?_) rfl ?_ ?_ ?_; rotate_left 1; rfl; (focus (intro wS hSw; have hk:=zAE hSw; go_simp; first | done | with_reducible rfl)); (try simp only [Act.put,qset])) | (refine zAD rfl ?_ ?_; rfl; (try simp only [Act.put,qset])))
   refine zAG rfl (fun K hK=>?_)
   go_simp
   refine hK.out _ _ hHeld (fun _=>?_)
   (try simp only [Act.put,qset])
   clear hK K
   iterate 4 (first | (refine zAC (v := ?_) rfl ?_ ?_ ?_; rotate_left 1; rfl; (focus (intro wS hSw; have hk:=zAE hSw; go_simp; first | done | with_reducible rfl)); (try simp only [Act.put,qset])) | (refine zAD rfl ?_ ?_; rfl; (try simp only [Act.put,qset])))
   refine zAI ?_
   go_wp2_with fail
   go_ret
   exact ⟨rfl,zAA HB2.out hHeld⟩
  ·obtain rfl : b = false:=by
    cases b with
    | false=>rfl
    | true =>
     rcases hb.1 rfl with q | ⟨q1,q2,q3,q4,q5,q6,q7⟩ | ⟨q1,q2 | ⟨q2,q3,q4,q5,q6,q7⟩⟩
     ·omega
     ·omega
     ·rw [gk] at q2; cases q2
     ·omega
   have z0 : (e.op == 0) = false:=by simp [gop]
   have z1 : (e.op == 1) = false:=by simp [gop]
   have z2 : (e.op == 2) = true:=by simp [gop]
   have z3 : (e.op == 3) = false:=by simp [gop]
   have GK:=zI2 gk
   have lv : (a0 == 1) = true:=beq_iff_eq.2 g2
   have fa : (b0 == 2) = false:=beq_false_of_ne g3
   clear hb ha0 ha1 ha2 ha3 ha4 hb0 hb1 hb2 hb3 hb4 gop gk g2 g3
   rw [GK.out] at e5
   go_wp2_with fail
   refine zAJ ((0,true) :: (1,true) :: (2,true) :: (3,true) :: (4,true) :: (5,true) :: (6,true) :: (7,true) :: (8,true) :: (9,true) :: (10,false) :: (11,true) :: (12,true) :: (13,true) :: (14,true) :: []) (by kernel_rfl) (by kernel_rfl) (by kernel_rfl) (by decide) (fun _ _ _ _ _ h=>h) (fun hHeld=>?_)
   iterate 10 (first | (refine zAC (v := ?_) rfl ?_ ?_ ?_; rotate_left 1; rfl; (focus (intro wS hSw; have hk:=zAE hSw; go_simp; first | done | with_reducible rfl)); (try simp only [Act.put,qset])) | (refine zAD rfl ?_ ?_; rfl; (try simp only [Act.put,qset])))
   refine zAG rfl (fun K hK=>?_)
   go_simp
   go_at_call 115
   refine (zAs a0 a1 a2 a3 a4 _).mono ?_
   rintro r w9 ⟨rfl,hb'⟩
   (try go_wp2_with fail)
   refine hK.out _ _ (zAA hHeld hb') ?_
   replace hHeld:=zAA hHeld hb'
   clear hb' hK K
   intro _
   (try simp only [Act.put,qset])
   iterate 4 (first | (refine zAC (v := ?_) rfl ?_ ?_ ?_; rotate_left 1; rfl; (focus (intro wS hSw; have hk:=zAE hSw; go_simp; first | done | with_reducible rfl)); (try simp only [Act.put,qset])) | (refine zAD rfl ?_ ?_; rfl; (try simp only [Act.put,qset])))
   refine zAI ?_
   go_wp2_with fail
   go_ret
   exact ⟨rfl,zAA HB2.out hHeld⟩
  ·obtain rfl : b = false:=by
    cases b with
    | false=>rfl
    | true =>
     rcases hb.1 rfl with q | ⟨q1,q2,q3,q4,q5,q6,q7⟩ | ⟨q1,q2 | ⟨q2,q3,q4,q5,q6,q7⟩⟩
     ·omega
     ·omega
     ·rw [gk] at q2; cases q2
     ·omega
   have z0 : (e.op == 0) = false:=by simp [gop]
   have z1 : (e.op == 1) = false:=by simp [gop]
   have z2 : (e.op == 2) = true:=by simp [gop]
   have z3 : (e.op == 3) = false:=by simp [gop]
   have GK:=zI2 gk
   have lv : (a0 == 1) = true:=beq_iff_eq.2 g2
   have fa : (b0 == 2) = true:=beq_iff_eq.2 g3
   have fb : (b1 == a1) = false:=beq_false_of_ne g4
   clear hb ha0 ha1 ha2 ha3 ha4 hb0 hb1 hb2 hb3 hb4 gop gk g2 g3 g4
   rw [GK.out] at e5
   go_wp2_with fail
   refine zAJ ((0,true) :: (1,true) :: (2,true) :: (3,true) :: (4,true) :: (5,true) :: (6,true) :: (7,true) :: (8,true) :: (9,true) :: (10,false) :: (11,true) :: (12,true) :: (13,true) :: (14,true) :: []) (by kernel_rfl) (by kernel_rfl) (by kernel_rfl) (by decide) (fun _ _ _ _ _ h=>h) (fun hHeld=>?_)
   iterate 10 (first | (refine zAC (v := ?_) rfl ?_ ?_ ?_; rotate_left 1; rfl; (focus (intro wS hSw; have hk:=zAE hSw; go_simp; first | done | with_reducible rfl)); (try simp only [Act.put,qset])) | (refine zAD rfl ?_ ?_; rfl; (try simp only [Act.put,qset])))
   refine zAG rfl (fun K hK=>?_)
   go_simp
   go_at_call 115
   refine (zAs a0 a1 a2 a3 a4 _).mono ?_
   rintro r w9 ⟨rfl,hb'⟩
   (try go_wp2_with fail)
   refine hK.out _ _ (zAA hHeld hb') ?_
   replace hHeld:=zAA hHeld hb'
   clear hb' hK K
   intro _
   (try simp only [Act.put,qset])
   iterate 4 (first | (refine zAC (v := ?_) rfl ?_ ?_ ?_; rotate_left 1; rfl; (focus (intro wS hSw; have hk:=zAE hSw; go_simp; first | done | with_reducible rfl)); (try simp only [Act.put,qset])) | (refine zAD rfl ?_ ?_; rfl; (try simp only [Act.put,qset])))
   refine zAI ?_
   go_wp2_with fail
   go_ret
   exact ⟨rfl,zAA HB2.out hHeld⟩
  ·obtain rfl : b = false:=by
    cases b with
    | false=>rfl
    | true =>
     rcases hb.1 rfl with q | ⟨q1,q2,q3,q4,q5,q6,q7⟩ | ⟨q1,q2 | ⟨q2,q3,q4,q5,q6,q7⟩⟩
     ·omega
     ·omega
     ·rw [gk] at q2; cases q2
     ·omega
   have z0 : (e.op == 0) = false:=by simp [gop]
   have z1 : (e.op == 1) = false:=by simp [gop]
   have z2 : (e.op == 2) = true:=by simp [gop]
   have z3 : (e.op == 3) = false:=by simp [gop]
   have GK:=zI2 gk
   have lv : (a0 == 1) = true:=beq_iff_eq.2 g2
   have fa : (b0 == 2) = true:=beq_iff_eq.2 g3
   have fb : (b1 == a1) = true:=beq_iff_eq.2 g4
   have fc : (b2 == a2) = false:=beq_false_of_ne g5
   clear hb ha0 ha1 ha2 ha3 ha4 hb0 hb1 hb2 hb3 hb4 gop gk g2 g3 g4 g5
   rw [GK.out] at e5
   go_wp2_with fail
   refine zAJ ((0,true) :: (1,true) :: (2,true) :: (3,true) :: (4,true) :: (5,true) :: (6,true) :: (7,true) :: (8,true) :: (9,true) :: (10,false) :: (11,true) :: (12,true) :: (13,true) :: (14,true) :: []) (by kernel_rfl) (by kernel_rfl) (by kernel_rfl) (by decide) (fun _ _ _ _ _ h=>h) (fun hHeld=>?_)
   iterate 10 (first | (refine zAC (v := ?_) rfl ?_ ?_ ?_; rotate_left 1; rfl; (focus (intro wS hSw; have hk:=zAE hSw; go_simp; first | done | with_reducible rfl)); (try simp only [Act.put,qset])) | (refine zAD rfl ?_ ?_; rfl; (try simp only [Act.put,qset])))
   refine zAG rfl (fun K hK=>?_)
   go_simp
   go_at_call 115
   refine (zAs a0 a1 a2 a3 a4 _).mono ?_
   rintro r w9 ⟨rfl,hb'⟩
   (try go_wp2_with fail)
   refine hK.out _ _ (zAA hHeld hb') ?_
   replace hHeld:=zAA hHeld hb'
   clear hb' hK K
   intro _
   (try simp only [Act.put,qset])
   iterate 4 (first | (refine zAC (v := ?_) rfl ?_ ?_ ?_; rotate_left 1; rfl; (focus (intro wS hSw; have hk:=zAE hSw; go_simp; first | done | with_reducible rfl)); (try simp only [Act.put,qset])) | (refine zAD rfl ?_ ?_; rfl; (try simp only [Act.put,qset])))
   refine zAI ?_
   go_wp2_with fail
   go_ret
   exact ⟨rfl,zAA HB2.out hHeld⟩
  ·obtain rfl : b = false:=by
    cases b with
    | false=>rfl
    | true =>
     rcases hb.1 rfl with q | ⟨q1,q2,q3,q4,q5,q6,q7⟩ | ⟨q1,q2 | ⟨q2,q3,q4,q5,q6,q7⟩⟩
     ·omega
     ·omega
     ·rw [gk] at q2; cases q2
     ·omega
   have z0 : (e.op == 0) = false:=by simp [gop]
   have z1 : (e.op == 1) = false:=by simp [gop]
   have z2 : (e.op == 2) = true:=by simp [gop]
   have z3 : (e.op == 3) = false:=by simp [gop]
   have GK:=zI2 gk
   have lv : (a0 == 1) = true:=beq_iff_eq.2 g2
   have fa : (b0 == 2) = true:=beq_iff_eq.2 g3
   have fb : (b1 == a1) = true:=beq_iff_eq.2 g4
   have fc : (b2 == a2) = true:=beq_iff_eq.2 g5
   have fd : (b3 == a3) = false:=beq_false_of_ne g6
   clear hb ha0 ha1 ha2 ha3 ha4 hb0 hb1 hb2 hb3 hb4 gop gk g2 g3 g4 g5 g6
   rw [GK.out] at e5
   go_wp2_with fail
   refine zAJ ((0,true) :: (1,true) :: (2,true) :: (3,true) :: (4,true) :: (5,true) :: (6,true) :: (7,true) :: (8,true) :: (9,true) :: (10,false) :: (11,true) :: (12,true) :: (13,true) :: (14,true) :: []) (by kernel_rfl) (by kernel_rfl) (by kernel_rfl) (by decide) (fun _ _ _ _ _ h=>h) (fun hHeld=>?_)
   iterate 10 (first | (refine zAC (v := ?_) rfl ?_ ?_ ?_; rotate_left 1; rfl; (focus (intro wS hSw; have hk:=zAE hSw; go_simp; first | done | with_reducible rfl)); (try simp only [Act.put,qset])) | (refine zAD rfl ?_ ?_; rfl; (try simp only [Act.put,qset])))
   refine zAG rfl (fun K hK=>?_)
   go_simp
   go_at_call 115
   refine (zAs a0 a1 a2 a3 a4 _).mono ?_
   rintro r w9 ⟨rfl,hb'⟩
   (try go_wp2_with fail)
   refine hK.out _ _ (zAA hHeld hb') ?_
   replace hHeld:=zAA hHeld hb'
   clear hb' hK K
   intro _
   (try simp only [Act.put,qset])
   iterate 4 (first | (refine zAC (v := ?_) rfl ?_ ?_ ?_; rotate_left 1; rfl; (focus (intro wS hSw; have hk:=zAE hSw; go_simp; first | done | with_reducible rfl)); (try simp only [Act.put,qset])) | (refine zAD rfl ?_ ?_; rfl; (try simp only [Act.put,qset])))
   refine zAI ?_
   go_wp2_with fail
   go_ret
   exact ⟨rfl,zAA HB2.out hHeld⟩
  ·obtain rfl : b = false:=by
    cases b with
    | false=>rfl
    | true =>
     rcases hb.1 rfl with q | ⟨q1,q2,q3,q4,q5,q6,q7⟩ | ⟨q1,q2 | ⟨q2,q3,q4,q5,q6,q7⟩⟩
     ·omega
     ·omega
     ·rw [gk] at q2; cases q2
     ·omega
   have z0 : (e.op == 0) = false:=by simp [gop]
   have z1 : (e.op == 1) = false:=by simp [gop]
   have z2 : (e.op == 2) = true:=by simp [gop]
   have z3 : (e.op == 3) = false:=by simp [gop]
   have GK:=zI2 gk
   have lv : (a0 == 1) = true:=beq_iff_eq.2 g2
   have fa : (b0 == 2) = true:=beq_iff_eq.2 g3
   have fb : (b1 == a1) = true:=beq_iff_eq.2 g4
   have fc : (b2 == a2) = true:=beq_iff_eq.2 g5
   have fd : (b3 == a3) = true:=beq_iff_eq.2 g6
   have fe : (b4 == a4) = false:=beq_false_of_ne g7
   clear hb ha0 ha1 ha2 ha3 ha4 hb0 hb1 hb2 hb3 hb4 gop gk g2 g3 g4 g5 g6 g7
   rw [GK.out] at e5
   go_wp2_with fail
   refine zAJ ((0,true) :: (1,true) :: (2,true) :: (3,true) :: (4,true) :: (5,true) :: (6,true) :: (7,true) :: (8,true) :: (9,true) :: (10,false) :: (11,true) :: (12,true) :: (13,true) :: (14,true) :: []) (by kernel_rfl) (by kernel_rfl) (by kernel_rfl) (by decide) (fun _ _ _ _ _ h=>h) (fun hHeld=>?_)
   iterate 10 (first | (refine zAC (v := ?_) rfl ?_ ?_ ?_; rotate_left 1; rfl; (focus (intro wS hSw; have hk:=zAE hSw; go_simp; first | done | with_reducible rfl)); (try simp only [Act.put,qset])) | (refine zAD rfl ?_ ?_; rfl; (try simp only [Act.put,qset])))
   refine zAG rfl (fun K hK=>?_)
   go_simp
   go_at_call 115
   refine (zAs a0 a1 a2 a3 a4 _).mono ?_
   rintro r w9 ⟨rfl,hb'⟩
   (try go_wp2_with fail)
   refine hK.out _ _ (zAA hHeld hb') ?_
   replace hHeld:=zAA hHeld hb'
   clear hb' hK K
   intro _
   (try simp only [Act.put,qset])
   iterate 4 (first | (refine zAC (v := ?_) rfl ?_ ?_ ?_; rotate_left 1; rfl; (focus (intro wS hSw; have hk:=zAE hSw; go_simp; first | done | with_reducible rfl)); (try simp only [Act.put,qset])) | (refine zAD rfl ?_ ?_; rfl; (try simp only [Act.put,qset])))
   refine zAI ?_
   go_wp2_with fail
   go_ret
   exact ⟨rfl,zAA HB2.out hHeld⟩
  ·obtain rfl : b = true:=hb.2 (.inr (.inr ⟨gop,.inr (by omega)⟩))
   have z0 : (e.op == 0) = false:=by simp [gop]
   have z1 : (e.op == 1) = false:=by simp [gop]
   have z2 : (e.op == 2) = true:=by simp [gop]
   have z3 : (e.op == 3) = false:=by simp [gop]
   have GK:=zI2 gk
   have lv : (a0 == 1) = true:=beq_iff_eq.2 g2
   have fa : (b0 == 2) = true:=beq_iff_eq.2 g3
   have fb : (b1 == a1) = true:=beq_iff_eq.2 g4
   have fc : (b2 == a2) = true:=beq_iff_eq.2 g5
   have fd : (b3 == a3) = true:=beq_iff_eq.2 g6
   have fe : (b4 == a4) = true:=beq_iff_eq.2 g7
   clear hb ha0 ha1 ha2 ha3 ha4 hb0 hb1 hb2 hb3 hb4 gop gk g2 g3 g4 g5 g6 g7
   rw [GK.out] at e5
   go_wp2_with fail
   refine zAJ ((0,true) :: (1,true) :: (2,true) :: (3,true) :: (4,true) :: (5,true) :: (6,true) :: (7,true) :: (8,true) :: (9,true) :: (10,false) :: (11,true) :: (12,true) :: (13,true) :: (14,true) :: []) (by kernel_rfl) (by kernel_rfl) (by kernel_rfl) (by decide) (fun _ _ _ _ _ h=>h) (fun hHeld=>?_)
   iterate 10 (first | (refine zAC (v := ?_) rfl ?_ ?_ ?_; rotate_left 1; rfl; (focus (intro wS hSw; have hk:=zAE hSw; go_simp; first | done | with_reducible rfl)); (try simp only [Act.put,qset])) | (refine zAD rfl ?_ ?_; rfl; (try simp only [Act.put,qset])))
   refine zAG rfl (fun K hK=>?_)
   go_simp
   go_at_call 115
   refine (zAs a0 a1 a2 a3 a4 _).mono ?_
   rintro r w9 ⟨rfl,hb'⟩
   (try go_wp2_with fail)
   refine hK.out _ _ (zAA hHeld hb') ?_
   replace hHeld:=zAA hHeld hb'
   clear hb' hK K
   intro _
   (try simp only [Act.put,qset])
   iterate 4 (first | (refine zAC (v := ?_) rfl ?_ ?_ ?_; rotate_left 1; rfl; (focus (intro wS hSw; have hk:=zAE hSw; go_simp; first | done | with_reducible rfl)); (try simp only [Act.put,qset])) | (refine zAD rfl ?_ ?_; rfl; (try simp only [Act.put,qset])))
   refine zAI ?_
   go_wp2_with fail
   go_ret
   exact ⟨rfl,zAA HB2.out hHeld⟩
  ·obtain rfl : b = false:=by
    cases b with
    | false=>rfl
    | true =>
     rcases hb.1 rfl with q | ⟨q1,q2,q3,q4,q5,q6,q7⟩ | ⟨q1,q2 | ⟨q2,q3,q4,q5,q6,q7⟩⟩
     ·omega
     ·omega
     ·omega
     ·omega
   have z0 : (e.op == 0) = false:=beq_false_of_ne gn0
   have z1 : (e.op == 1) = false:=beq_false_of_ne gn1
   have z2 : (e.op == 2) = false:=beq_false_of_ne gn2
   obtain ⟨zz3,z3⟩ : ∃ z,(e.op == 3) = z:=⟨_,rfl⟩
   clear hb ha0 ha1 ha2 ha3 ha4 hb0 hb1 hb2 hb3 hb4 gn0 gn1 gn2
   go_wp2_with fail
   go_ret
   exact ⟨rfl,HB2.out⟩
end
end
section
open Go.RowKit
theorem zIJ {N : Nat} {t a : Int} (n2 : (N : Int) ≤ 4096) (t2 : t ≤ 64) (h0 : 0 ≤ a) (h1 : a < t) : (Lit.int .i64 (2 * N + a)).wf = true:=WalkArith.wf_i64 (by omega)
section
variable {w : World} {wb bc bg : Nat} {t s so d : Int} {N n : Nat} {f : Int → Int} {g : Int → Int → Option Int} {e : Ev}
theorem zE1 (h : WAt w wb bc bg t s so d N n f g) (hf : e.Fit) (c1 : 0 ≤ e.who) (c2 : e.who < t) (c3 : 0 ≤ e.cell) (c6 : N ≤ e.cell) (c7 : e.cell < 2 * N) (j : Int) (hj : e.cell - N = j) (b : Bool) (hb : b = true ↔ MayV N s f g e) :
  Calls Tryz.prog 87 #[pt wb,e.v,i64 j] w fun r w'=>r = .returned (.bool b) ∧ Below w.heap.size w w':=by
 unfold MayV at hb
 rw [hj] at hb
 have hlay:=h.lay
 have HLA:=zI2 hlay
 have n1:=hlay.n1
 have n2:=hlay.n2
 have t1:=hlay.t1
 have t2:=hlay.t2
 have s1:=hlay.s1
 have s2:=hlay.s2
 have hb0:=zAB (Below.refl w.heap.size w) (e.obj 101)
 have HB0:=zI2 hb0
 have HO : Hid (IsObj (w.alloc (e.obj 101)) w.heap.size [i64 e.who,i64 e.op,i64 e.cell,u64 e.old,u64 e.new,.bool e.ok]):=zI2 (IsObj.made w [i64 e.who,i64 e.op,i64 e.cell,u64 e.old,u64 e.new,.bool e.ok] 101)
 have HW:=zI2 (h.later hb0)
 have HFE:=zI2 hf
 have hwb0:=(h.later hb0).obj.lt
 have hxb:=h.fit j
 obtain ⟨x,hx⟩ : ∃ x,f j = x:=⟨_,rfl⟩
 rw [hx] at hxb
 obtain ⟨xb0,xb1⟩:=hxb
 have HX:=zI2 hx
 have hj0 : 0 ≤ j:=by omega
 have hj1 : j < N:=by omega
 have HJW:=zI2 (zCF hj0 (by omega))
 have HLO : Hid (lookOk N (e.who,j)):=⟨zCF c1 (by omega),hj0,hj1,n2⟩
 clear h hb0 hf hlay
 go_enter Tryz.func87,Tryz.ntmps87
 go_wp2_with fail
 generalize w.alloc (e.obj 101) = w1 at HO HW HB0 ⊢
 generalize w.heap.size = eb at HO ⊢
 obtain ⟨e0,e1,e2,e3,e4,e5⟩ : _ ∧ _ ∧ _ ∧ _ ∧ _ ∧ _:=⟨HO.out.at' 0 _ rfl,HO.out.at' 1 _ rfl,HO.out.at' 2 _ rfl,HO.out.at' 3 _ rfl,HO.out.at' 4 _ rfl,HO.out.at' 5 _ rfl⟩
 obtain ⟨q0,q1,q2,q3,q4,q5⟩ : _ ∧ _ ∧ _ ∧ _ ∧ _ ∧ _:=⟨HW.out.obj.at' 0 _ rfl,HW.out.obj.at' 1 _ rfl,HW.out.obj.at' 2 _ rfl,HW.out.obj.at' 3 _ rfl,HW.out.obj.at' 4 _ rfl,HW.out.obj.at' 5 _ rfl⟩
 obtain ⟨MC,hmc⟩:=HW.out.cells
 have HMC:=zI2 hmc
 clear hmc
 go_cut [7] (fun s7 wx => ∃ bv,s7 = .pointer (some ⟨bv,0,none⟩) ∧ Hid (IsObj wx bv [i64 (x % 4),i64 (x / 4 % 2),i64 (x / 8 % 8192),i64 (x / 65536 % 16777216),i64 (x / 1099511627776)]) ∧ Hid (Below w1.heap.size w1 wx))
 case first =>
  refine zAa (fun w'=>Below w1.heap.size w1 w') (.take 0 (.take 1 (.take 2 (.take 3 (.take 4 (.take 5 (.take 6 (.take 7 (.take 8 (.two 9 (.take 10 (.two 11 (.one 12 (.one 13 .nil)) 12 (.one 11 (.one 13 .nil)))) 12 (.one 9 (.take 10 (.one 11 (.one 13 .nil)))))))))))))) (by kernel_rfl) (by kernel_rfl) (by kernel_rfl) (by decide) (fun _ _ _ _ _ h=>h) (Below.refl _ _).drew ?_
  repeat (refine zAW (v := ?_) rfl ?_ ?_ ?_; rotate_left 1; rfl; (focus (intro wS hSw; have hk:=zAE hSw; go_simp; first | done | with_reducible rfl)); (try simp only [Act.put,qset]))
  have HG : Hid (Below w1.heap.size w1 w1.drew):=(Below.refl _ _).drew
  generalize w1.drew = ww0 at HG ⊢
  refine ⟨?_, ?_⟩
  ·refine runT rfl (fun K hK=>?_)
   go_simp
   go_at_call 68
   refine (zAU t s so d j _).mono ?_
   rintro r ww1 ⟨rfl,hb⟩
   (try go_wp2_with fail)
   replace HG:=zI2 (zAA HG.out hb)
   clear hb
   refine hK.out _ _ HG.out (fun _=>?_)
   (try simp only [Act.put,qset])
   clear hK K
   try clear ww0
   refine zAW (v:=.int .u64 x) rfl rfl (fun wS hSw=>zBv _ _ _ rfl zBE rfl (HMC.out.later hSw) j x rfl HJW.out HX.out) ?_
   (try simp only [Act.put,qset])
   refine ⟨?_, ?_⟩
   ·refine runT rfl (fun K hK=>?_)
    go_simp
    go_at_call 64
    refine (zAN x _ xb0 xb1).mono ?_
    rintro r ww2 ⟨rfl,hb⟩
    (try go_wp2_with fail)
    replace HG:=zI2 (zAA HG.out hb)
    clear hb
    refine hK.out _ _ HG.out (fun _=>?_)
    (try simp only [Act.put,qset])
    clear hK K
    try clear ww1
    refine runT rfl (fun K hK=>?_)
    go_simp
    have hb:=zAB (Below.refl ww2.heap.size ww2) (.cells #[i64 0,i64 0,i64 0,i64 0,i64 0] 122)
    have Hv : Hid (IsObj (ww2.alloc (.cells #[i64 0,i64 0,i64 0,i64 0,i64 0] 122)) ww2.heap.size [i64 0,i64 0,i64 0,i64 0,i64 0]):=IsObj.made ww2 [i64 0,i64 0,i64 0,i64 0,i64 0] 122
    have Hsv : Hid (w1.heap.size ≤ ww2.heap.size):=HG.out.size
    replace HG:=zI2 (zAA HG.out hb)
    clear hb
    generalize ww2.alloc (.cells #[i64 0,i64 0,i64 0,i64 0,i64 0] 122) = ww3 at HG Hv ⊢
    generalize ww2.heap.size = bv at Hv Hsv ⊢
    refine hK.out _ _ HG.out (fun _=>?_)
    (try simp only [Act.put,qset])
    clear hK K
    try clear ww2
    refine runT rfl (fun K hK=>?_)
    have q0:=Hv.out.at' 0 _ rfl
    have q1:=Hv.out.at' 1 _ rfl
    have q2:=Hv.out.at' 2 _ rfl
    have q3:=Hv.out.at' 3 _ rfl
    have q4:=Hv.out.at' 4 _ rfl
    have f0:=Hv.out.fz 0
    have f1:=Hv.out.fz 1
    have f2:=Hv.out.fz 2
    have f3:=Hv.out.fz 3
    have f4:=Hv.out.fz 4
    go_simp
    clear q0 q1 q2 q3 q4 f0 f1 f2 f3 f4
    obtain ⟨g1,g2,g3⟩:=aset5 HG.out Hv.out Hsv.out (i64 (x % 4)) (i64 (x / 4 % 2)) (i64 (x / 8 % 8192)) (i64 (x / 65536 % 16777216)) (i64 (x / 1099511627776))
    replace HG:=zI2 g1
    replace Hv:=zI2 g2
    clear g1 g2 g3
    generalize ((((ww3.setCell ⟨bv,0,none⟩ (i64 (x % 4))).setCell ⟨bv,1,none⟩ (i64 (x / 4 % 2))).setCell ⟨bv,2,none⟩ (i64 (x / 8 % 8192))).setCell ⟨bv,3,none⟩ (i64 (x / 65536 % 16777216))).setCell ⟨bv,4,none⟩ (i64 (x / 1099511627776)) = wy0 at HG Hv ⊢
    refine hK.out _ _ HG.out (fun _=>?_)
    (try simp only [Act.put,qset])
    clear hK K
    refine zAO ?_
    go_wp2_with fail
    go_meet
    exact ⟨bv,rfl,Hv,HG⟩
   ·refine runT rfl (fun K hK=>?_)
    go_simp
    have hb:=zAB (Below.refl ww1.heap.size ww1) (.cells #[i64 0,i64 0,i64 0,i64 0,i64 0] 122)
    have Hv : Hid (IsObj (ww1.alloc (.cells #[i64 0,i64 0,i64 0,i64 0,i64 0] 122)) ww1.heap.size [i64 0,i64 0,i64 0,i64 0,i64 0]):=IsObj.made ww1 [i64 0,i64 0,i64 0,i64 0,i64 0] 122
    have Hsv : Hid (w1.heap.size ≤ ww1.heap.size):=HG.out.size
    replace HG:=zI2 (zAA HG.out hb)
    clear hb
    generalize ww1.alloc (.cells #[i64 0,i64 0,i64 0,i64 0,i64 0] 122) = ww2 at HG Hv ⊢
    generalize ww1.heap.size = bv at Hv Hsv ⊢
    refine hK.out _ _ HG.out (fun _=>?_)
    (try simp only [Act.put,qset])
    clear hK K
    try clear ww1
    refine runT rfl (fun K hK=>?_)
    go_simp
    go_at_call 64
    refine (zAN x _ xb0 xb1).mono ?_
    rintro r ww3 ⟨rfl,hb⟩
    (try go_wp2_with fail)
    replace Hv:=zI2 (Hv.out.later hb)
    replace HG:=zI2 (zAA HG.out hb)
    clear hb
    refine hK.out _ _ HG.out (fun _=>?_)
    (try simp only [Act.put,qset])
    clear hK K
    try clear ww2
    refine runT rfl (fun K hK=>?_)
    have q0:=Hv.out.at' 0 _ rfl
    have q1:=Hv.out.at' 1 _ rfl
    have q2:=Hv.out.at' 2 _ rfl
    have q3:=Hv.out.at' 3 _ rfl
    have q4:=Hv.out.at' 4 _ rfl
    have f0:=Hv.out.fz 0
    have f1:=Hv.out.fz 1
    have f2:=Hv.out.fz 2
    have f3:=Hv.out.fz 3
    have f4:=Hv.out.fz 4
    go_simp
    clear q0 q1 q2 q3 q4 f0 f1 f2 f3 f4
    obtain ⟨g1,g2,g3⟩:=aset5 HG.out Hv.out Hsv.out (i64 (x % 4)) (i64 (x / 4 % 2)) (i64 (x / 8 % 8192)) (i64 (x / 65536 % 16777216)) (i64 (x / 1099511627776))
    replace HG:=zI2 g1
    replace Hv:=zI2 g2
    clear g1 g2 g3
    generalize ((((ww3.setCell ⟨bv,0,none⟩ (i64 (x % 4))).setCell ⟨bv,1,none⟩ (i64 (x / 4 % 2))).setCell ⟨bv,2,none⟩ (i64 (x / 8 % 8192))).setCell ⟨bv,3,none⟩ (i64 (x / 65536 % 16777216))).setCell ⟨bv,4,none⟩ (i64 (x / 1099511627776)) = wy0 at HG Hv ⊢
    refine hK.out _ _ HG.out (fun _=>?_)
    (try simp only [Act.put,qset])
    clear hK K
    refine zAO ?_
    go_wp2_with fail
    go_meet
    exact ⟨bv,rfl,Hv,HG⟩
  ·refine runT rfl (fun K hK=>?_)
   go_simp
   have hb:=zAB (Below.refl ww0.heap.size ww0) (.cells #[i64 0,i64 0,i64 0,i64 0,i64 0] 122)
   have Hv : Hid (IsObj (ww0.alloc (.cells #[i64 0,i64 0,i64 0,i64 0,i64 0] 122)) ww0.heap.size [i64 0,i64 0,i64 0,i64 0,i64 0]):=IsObj.made ww0 [i64 0,i64 0,i64 0,i64 0,i64 0] 122
   have Hsv : Hid (w1.heap.size ≤ ww0.heap.size):=HG.out.size
   replace HG:=zI2 (zAA HG.out hb)
   clear hb
   generalize ww0.alloc (.cells #[i64 0,i64 0,i64 0,i64 0,i64 0] 122) = ww1 at HG Hv ⊢
   generalize ww0.heap.size = bv at Hv Hsv ⊢
   refine hK.out _ _ HG.out (fun _=>?_)
   (try simp only [Act.put,qset])
   clear hK K
   try clear ww0
   refine runT rfl (fun K hK=>?_)
   go_simp
   go_at_call 68
   refine (zAU t s so d j _).mono ?_
   rintro r ww2 ⟨rfl,hb⟩
   (try go_wp2_with fail)
   replace Hv:=zI2 (Hv.out.later hb)
   replace HG:=zI2 (zAA HG.out hb)
   clear hb
   refine hK.out _ _ HG.out (fun _=>?_)
   (try simp only [Act.put,qset])
   clear hK K
   try clear ww1
   refine zAW (v:=.int .u64 x) rfl rfl (fun wS hSw=>zBv _ _ _ rfl zBE rfl (HMC.out.later hSw) j x rfl HJW.out HX.out) ?_
   (try simp only [Act.put,qset])
   refine runT rfl (fun K hK=>?_)
   go_simp
   go_at_call 64
   refine (zAN x _ xb0 xb1).mono ?_
   rintro r ww3 ⟨rfl,hb⟩
   (try go_wp2_with fail)
   replace Hv:=zI2 (Hv.out.later hb)
   replace HG:=zI2 (zAA HG.out hb)
   clear hb
   refine hK.out _ _ HG.out (fun _=>?_)
   (try simp only [Act.put,qset])
   clear hK K
   try clear ww2
   refine runT rfl (fun K hK=>?_)
   have q0:=Hv.out.at' 0 _ rfl
   have q1:=Hv.out.at' 1 _ rfl
   have q2:=Hv.out.at' 2 _ rfl
   have q3:=Hv.out.at' 3 _ rfl
   have q4:=Hv.out.at' 4 _ rfl
   have f0:=Hv.out.fz 0
   have f1:=Hv.out.fz 1
   have f2:=Hv.out.fz 2
   have f3:=Hv.out.fz 3
   have f4:=Hv.out.fz 4
   go_simp
   clear q0 q1 q2 q3 q4 f0 f1 f2 f3 f4
   obtain ⟨g1,g2,g3⟩:=aset5 HG.out Hv.out Hsv.out (i64 (x % 4)) (i64 (x / 4 % 2)) (i64 (x / 8 % 8192)) (i64 (x / 65536 % 16777216)) (i64 (x / 1099511627776))
   replace HG:=zI2 g1
   replace Hv:=zI2 g2
   clear g1 g2 g3
   generalize ((((ww3.setCell ⟨bv,0,none⟩ (i64 (x % 4))).setCell ⟨bv,1,none⟩ (i64 (x / 4 % 2))).setCell ⟨bv,2,none⟩ (i64 (x / 8 % 8192))).setCell ⟨bv,3,none⟩ (i64 (x / 65536 % 16777216))).setCell ⟨bv,4,none⟩ (i64 (x / 1099511627776)) = wy0 at HG Hv ⊢
   refine hK.out _ _ HG.out (fun _=>?_)
   (try simp only [Act.put,qset])
   clear hK K
   refine zAO ?_
   go_wp2_with fail
   go_meet
   exact ⟨bv,rfl,Hv,HG⟩
 case rest =>
  obtain ⟨bv,rfl,Hv,HG⟩:=hcut
  clear e0 e1 e2 e3 e4 e5 q0 q1 q2 q3 q4 q5
  have HB2:=zI2 (zAA HB0.out HG.out)
  have HO2:=zI2 (HO.out.later HG.out)
  have HW2:=zI2 (HW.out.later HG.out)
  clear HG HO HW HB0 HMC
  obtain ⟨MC,hmc⟩:=HW2.out.cells
  have HMC:=zI2 hmc
  clear hmc
  obtain ⟨a0,ha0⟩ : ∃ z,x % 4 = z:=⟨_,rfl⟩
  obtain ⟨a1,ha1⟩ : ∃ z,x / 4 % 2 = z:=⟨_,rfl⟩
  obtain ⟨a2,ha2⟩ : ∃ z,x / 8 % 8192 = z:=⟨_,rfl⟩
  obtain ⟨a3,ha3⟩ : ∃ z,x / 65536 % 16777216 = z:=⟨_,rfl⟩
  obtain ⟨a4,ha4⟩ : ∃ z,x / 1099511627776 = z:=⟨_,rfl⟩
  have hv:=Hv.out
  simp only [ha0,ha1,ha2,ha3,ha4] at hv
  have HV:=zI2 hv
  clear hv Hv
  obtain ⟨e0,e1,e2,e3,e4,e5⟩ : _ ∧ _ ∧ _ ∧ _ ∧ _ ∧ _:=⟨HO2.out.at' 0 _ rfl,HO2.out.at' 1 _ rfl,HO2.out.at' 2 _ rfl,HO2.out.at' 3 _ rfl,HO2.out.at' 4 _ rfl,HO2.out.at' 5 _ rfl⟩
  obtain ⟨q0,q1,q2,q3,q4,q5⟩ : _ ∧ _ ∧ _ ∧ _ ∧ _ ∧ _:=⟨HW2.out.obj.at' 0 _ rfl,HW2.out.obj.at' 1 _ rfl,HW2.out.obj.at' 2 _ rfl,HW2.out.obj.at' 3 _ rfl,HW2.out.obj.at' 4 _ rfl,HW2.out.obj.at' 5 _ rfl⟩
  obtain ⟨u0,u1,u2,u3,u4⟩ : _ ∧ _ ∧ _ ∧ _ ∧ _:=⟨HV.out.at' 0 _ rfl,HV.out.at' 1 _ rfl,HV.out.at' 2 _ rfl,HV.out.at' 3 _ rfl,HV.out.at' 4 _ rfl⟩
  have y5 : IntKind.u64.wrap j = j:=by rw [IntKind.wrap_u64]; omega
  have y6 : IntKind.u64.wrap (j + 1) = j + 1:=by rw [IntKind.wrap_u64]; omega
  rw [HX.out] at hb
  simp only [ha0,ha2] at hb
  rcases (show ((e.op = 0) ∧ (g e.who j = none)) ∨ ((e.op = 0) ∧ (∃ rr,g e.who j = some rr ∧ rr / 8 % 8192 ≠ a2)) ∨ ((e.op = 0) ∧ (∃ rr,g e.who j = some rr ∧ rr / 8 % 8192 = a2) ∧ (f (2 * N + e.who) ≠ j + 1)) ∨ ((e.op = 0) ∧ (∃ rr,g e.who j = some rr ∧ rr / 8 % 8192 = a2) ∧ (f (2 * N + e.who) = j + 1)) ∨ ((e.op = 1) ∧ (e.who ≠ j / s)) ∨ ((e.op = 1) ∧ (e.who = j / s) ∧ (a0 = 1)) ∨ ((e.op = 1) ∧ (e.who = j / s) ∧ (a0 ≠ 1)) ∨ ((e.op ≠ 0) ∧ (e.op ≠ 1)) from by
    by_cases k0 : e.op = 0
    ·cases hgg : g e.who j with
     | none=>exact .inl ⟨k0,rfl⟩
     | some rr =>
      by_cases m1 : rr / 8 % 8192 = a2
      ·by_cases m2 : f (2 * N + e.who) = j + 1
       ·exact .inr (.inr (.inr (.inl ⟨k0,⟨rr,rfl,m1⟩,m2⟩)))
       ·exact .inr (.inr (.inl ⟨k0,⟨rr,rfl,m1⟩,m2⟩))
      ·exact .inr (.inl ⟨k0,rr,rfl,m1⟩)
    by_cases k1 : e.op = 1
    ·by_cases m1 : e.who = j / s <;> by_cases m2 : a0 = 1 <;> simp [k1,m1,m2]
    ·simp [k0,k1]) with ⟨gop,hld⟩ | ⟨gop,hld⟩ | ⟨gop,hld,gh⟩ | ⟨gop,hld,gh⟩ | ⟨gop,g1⟩ | ⟨gop,g1,g2⟩ | ⟨gop,g1,g2⟩ | ⟨gn0,gn1⟩
  ·obtain rfl : b = false:=by
    cases b with
    | false=>rfl
    | true =>
     rcases hb.1 rfl with ⟨q,⟨r,hr,hr2⟩,hr3⟩ | ⟨q,q2,q3⟩
     ·rw [hld] at hr
      cases hr
     ·omega
   have z0 : (e.op == 0) = true:=by simp [gop]
   have z1 : (e.op == 1) = false:=by simp [gop]
   have z2 : (e.op == 2) = false:=by simp [gop]
   have z3 : (e.op == 3) = false:=by simp [gop]
   have HLD:=zI2 hld
   clear hb ha0 ha1 ha2 ha3 ha4 gop hld
   go_wp2_with fail
   refine zAJ ((0,true) :: (1,true) :: (2,true) :: (3,true) :: (4,true) :: (5,true) :: (6,true) :: (7,true) :: (8,true) :: (9,true) :: (10,true) :: (11,true) :: (12,true) :: (13,true) :: []) (by kernel_rfl) (by kernel_rfl) (by kernel_rfl) (by decide) (fun _ _ _ _ _ h=>h) (fun hHeld=>?_)
   iterate 8 (first | (refine zAC (v := ?_) rfl ?_ ?_ ?_; rotate_left 1; rfl; (focus (intro wS hSw; have hk:=zAE hSw; go_simp; first | done | with_reducible rfl)); (try simp only [Act.put,qset])) | (refine zAD rfl ?_ ?_; rfl; (try simp only [Act.put,qset])))
   refine zAC (v:=.tuple #[.int .i64 0,.bool false]) rfl rfl (fun wS hSw=>zBT _ _ _ rfl (zCj N) rfl (HW2.out.gens.later hSw) (e.who,j) _ _ rfl HLO.out (by show genO (g e.who j) = _; rw [HLD.out]; rfl) (by show (g e.who j).isSome = _; rw [HLD.out]; rfl)) ?_
   (try simp only [Act.put,qset])
   iterate 5 (first | (refine zAC (v := ?_) rfl ?_ ?_ ?_; rotate_left 1; rfl; (focus (intro wS hSw; have hk:=zAE hSw; go_simp; first | done | with_reducible rfl)); (try simp only [Act.put,qset])) | (refine zAD rfl ?_ ?_; rfl; (try simp only [Act.put,qset])))
   refine zAI ?_
   have HB3:=zI2 (zAA HB2.out hHeld)
   have HO3:=zI2 (HO2.out.later hHeld)
   have HW3:=zI2 (HW2.out.later hHeld)
   have HV3:=zI2 (HV.out.later hHeld)
   have HMC3:=zI2 (HMC.out.later hHeld)
   generalize wc.drew = w3 at HB3 HO3 HW3 HV3 HMC3 hHeld ⊢
   clear e0 e1 e2 e3 e4 e5 q0 q1 q2 q3 q4 q5 u0 u1 u2 u3 u4 hHeld
   obtain ⟨e0,e1,e2,e3,e4,e5⟩ : _ ∧ _ ∧ _ ∧ _ ∧ _ ∧ _:=⟨HO3.out.at' 0 _ rfl,HO3.out.at' 1 _ rfl,HO3.out.at' 2 _ rfl,HO3.out.at' 3 _ rfl,HO3.out.at' 4 _ rfl,HO3.out.at' 5 _ rfl⟩
   obtain ⟨q0,q1,q2,q3,q4,q5⟩ : _ ∧ _ ∧ _ ∧ _ ∧ _ ∧ _:=⟨HW3.out.obj.at' 0 _ rfl,HW3.out.obj.at' 1 _ rfl,HW3.out.obj.at' 2 _ rfl,HW3.out.obj.at' 3 _ rfl,HW3.out.obj.at' 4 _ rfl,HW3.out.obj.at' 5 _ rfl⟩
   obtain ⟨u0,u1,u2,u3,u4⟩ : _ ∧ _ ∧ _ ∧ _ ∧ _:=⟨HV3.out.at' 0 _ rfl,HV3.out.at' 1 _ rfl,HV3.out.at' 2 _ rfl,HV3.out.at' 3 _ rfl,HV3.out.at' 4 _ rfl⟩
   go_wp2_with fail
   refine zAJ ((0,true) :: (1,true) :: (2,true) :: (3,true) :: (4,true) :: (5,true) :: (6,true) :: (7,true) :: (8,true) :: (9,true) :: (10,true) :: (11,true) :: (12,true) :: (13,true) :: (14,true) :: (15,true) :: (16,true) :: (17,true) :: (20,true) :: (21,true) :: (22,true) :: (18,false) :: (19,true) :: (23,true) :: (24,true) :: (25,true) :: []) (by kernel_rfl) (by kernel_rfl) (by kernel_rfl) (by decide) (fun _ _ _ _ _ h=>h) (fun hHeld=>?_)
   iterate 21 (first | (refine zAC (v := ?_) rfl ?_ ?_ ?_; rotate_left 1; rfl; (focus (intro wS hSw; have hk:=zAE hSw; go_simp; first | done | with_reducible rfl)); (try simp only [Act.put,qset])) | (refine zAD rfl ?_ ?_; rfl; (try simp only [Act.put,qset])))
   refine zAG rfl (fun K hK=>?_)
   go_simp
   refine hK.out _ _ hHeld (fun _=>?_)
   (try simp only [Act.put,qset])
   clear hK K
   iterate 1 (first | (refine zAC (v := ?_) rfl ?_ ?_ ?_; rotate_left 1; rfl; (focus (intro wS hSw; have hk:=zAE hSw; go_simp; first | done | with_reducible rfl)); (try simp only [Act.put,qset])) | (refine zAD rfl ?_ ?_; rfl; (try simp only [Act.put,qset])))
   iterate 3 (first | (refine zAC (v := ?_) rfl ?_ ?_ ?_; rotate_left 1; rfl; (focus (intro wS hSw; have hk:=zAE hSw; go_simp; first | done | with_reducible rfl)); (try simp only [Act.put,qset])) | (refine zAD rfl ?_ ?_; rfl; (try simp only [Act.put,qset])))
   refine zAI ?_
   go_wp2_with fail
   go_ret
   exact ⟨rfl,zAA HB3.out hHeld⟩
  ·have hld0:=hld
   obtain ⟨rr,hld1,hld2⟩:=hld
   obtain rfl : b = false:=by
    cases b with
    | false=>rfl
    | true =>
     rcases hb.1 rfl with ⟨q,⟨r,hr,hr2⟩,hr3⟩ | ⟨q,q2,q3⟩
     ·rw [hld1] at hr
      cases hr
      exact absurd hr2 hld2
     ·omega
   clear hld0
   obtain ⟨r2,hr2x⟩ : ∃ z,rr / 8 % 8192 = z:=⟨_,rfl⟩
   have HR2:=zI2 hr2x
   rw [hr2x] at hld2
   have z0 : (e.op == 0) = true:=by simp [gop]
   have z1 : (e.op == 1) = false:=by simp [gop]
   have z2 : (e.op == 2) = false:=by simp [gop]
   have z3 : (e.op == 3) = false:=by simp [gop]
   have HLD:=zI2 hld1
   have gg : (r2 == a2) = false:=beq_false_of_ne hld2
   clear hb ha0 ha1 ha2 ha3 ha4 gop hld1 hld2 hr2x
   go_wp2_with fail
   refine zAJ ((0,true) :: (1,true) :: (2,true) :: (3,true) :: (4,true) :: (5,true) :: (6,true) :: (7,true) :: (8,true) :: (9,true) :: (10,true) :: (11,true) :: (12,true) :: (13,true) :: []) (by kernel_rfl) (by kernel_rfl) (by kernel_rfl) (by decide) (fun _ _ _ _ _ h=>h) (fun hHeld=>?_)
   iterate 8 (first | (refine zAC (v := ?_) rfl ?_ ?_ ?_; rotate_left 1; rfl; (focus (intro wS hSw; have hk:=zAE hSw; go_simp; first | done | with_reducible rfl)); (try simp only [Act.put,qset])) | (refine zAD rfl ?_ ?_; rfl; (try simp only [Act.put,qset])))
   refine zAC (v:=.tuple #[.int .i64 r2,.bool true]) rfl rfl (fun wS hSw=>zBT _ _ _ rfl (zCj N) rfl (HW2.out.gens.later hSw) (e.who,j) _ _ rfl HLO.out (by show genO (g e.who j) = _; rw [HLD.out]; exact HR2.out) (by show (g e.who j).isSome = _; rw [HLD.out]; rfl)) ?_
   (try simp only [Act.put,qset])
   iterate 5 (first | (refine zAC (v := ?_) rfl ?_ ?_ ?_; rotate_left 1; rfl; (focus (intro wS hSw; have hk:=zAE hSw; go_simp; first | done | with_reducible rfl)); (try simp only [Act.put,qset])) | (refine zAD rfl ?_ ?_; rfl; (try simp only [Act.put,qset])))
   refine zAI ?_
   have HB3:=zI2 (zAA HB2.out hHeld)
   have HO3:=zI2 (HO2.out.later hHeld)
   have HW3:=zI2 (HW2.out.later hHeld)
   have HV3:=zI2 (HV.out.later hHeld)
   have HMC3:=zI2 (HMC.out.later hHeld)
   generalize wc.drew = w3 at HB3 HO3 HW3 HV3 HMC3 hHeld ⊢
   clear e0 e1 e2 e3 e4 e5 q0 q1 q2 q3 q4 q5 u0 u1 u2 u3 u4 hHeld
   obtain ⟨e0,e1,e2,e3,e4,e5⟩ : _ ∧ _ ∧ _ ∧ _ ∧ _ ∧ _:=⟨HO3.out.at' 0 _ rfl,HO3.out.at' 1 _ rfl,HO3.out.at' 2 _ rfl,HO3.out.at' 3 _ rfl,HO3.out.at' 4 _ rfl,HO3.out.at' 5 _ rfl⟩
   obtain ⟨q0,q1,q2,q3,q4,q5⟩ : _ ∧ _ ∧ _ ∧ _ ∧ _ ∧ _:=⟨HW3.out.obj.at' 0 _ rfl,HW3.out.obj.at' 1 _ rfl,HW3.out.obj.at' 2 _ rfl,HW3.out.obj.at' 3 _ rfl,HW3.out.obj.at' 4 _ rfl,HW3.out.obj.at' 5 _ rfl⟩
   obtain ⟨u0,u1,u2,u3,u4⟩ : _ ∧ _ ∧ _ ∧ _ ∧ _:=⟨HV3.out.at' 0 _ rfl,HV3.out.at' 1 _ rfl,HV3.out.at' 2 _ rfl,HV3.out.at' 3 _ rfl,HV3.out.at' 4 _ rfl⟩
   go_wp2_with fail
   refine zAJ ((0,true) :: (1,true) :: (2,true) :: (3,true) :: (4,true) :: (5,true) :: (6,true) :: (7,true) :: (8,true) :: (9,true) :: (10,true) :: (11,true) :: (12,true) :: (13,true) :: (14,true) :: (15,true) :: (16,true) :: (17,true) :: (20,true) :: (21,true) :: (22,true) :: (18,false) :: (19,true) :: (23,true) :: (24,true) :: (25,true) :: []) (by kernel_rfl) (by kernel_rfl) (by kernel_rfl) (by decide) (fun _ _ _ _ _ h=>h) (fun hHeld=>?_)
   iterate 21 (first | (refine zAC (v := ?_) rfl ?_ ?_ ?_; rotate_left 1; rfl; (focus (intro wS hSw; have hk:=zAE hSw; go_simp; first | done | with_reducible rfl)); (try simp only [Act.put,qset])) | (refine zAD rfl ?_ ?_; rfl; (try simp only [Act.put,qset])))
   refine zAG rfl (fun K hK=>?_)
   go_simp
   refine hK.out _ _ hHeld (fun _=>?_)
   (try simp only [Act.put,qset])
   clear hK K
   iterate 1 (first | (refine zAC (v := ?_) rfl ?_ ?_ ?_; rotate_left 1; rfl; (focus (intro wS hSw; have hk:=zAE hSw; go_simp; first | done | with_reducible rfl)); (try simp only [Act.put,qset])) | (refine zAD rfl ?_ ?_; rfl; (try simp only [Act.put,qset])))
   iterate 3 (first | (refine zAC (v := ?_) rfl ?_ ?_ ?_; rotate_left 1; rfl; (focus (intro wS hSw; have hk:=zAE hSw; go_simp; first | done | with_reducible rfl)); (try simp only [Act.put,qset])) | (refine zAD rfl ?_ ?_; rfl; (try simp only [Act.put,qset])))
   refine zAI ?_
   go_wp2_with fail
   go_ret
   exact ⟨rfl,zAA HB3.out hHeld⟩
  ·have hld0:=hld
   obtain ⟨rr,hld1,hld2⟩:=hld
   obtain rfl : b = false:=by
    cases b with
    | false=>rfl
    | true =>
     rcases hb.1 rfl with ⟨q,⟨r,hr,hr2⟩,hr3⟩ | ⟨q,q2,q3⟩
     ·exact absurd hr3 gh
     ·omega
   clear hld0
   obtain ⟨r2,hr2x⟩ : ∃ z,rr / 8 % 8192 = z:=⟨_,rfl⟩
   have HR2:=zI2 hr2x
   rw [hr2x] at hld2
   obtain ⟨hh,hhe⟩ : ∃ z,f (2 * (N : Int) + e.who) = z:=⟨_,rfl⟩
   have HHZ:=zI2 hhe
   rw [hhe] at gh
   have z0 : (e.op == 0) = true:=by simp [gop]
   have z1 : (e.op == 1) = false:=by simp [gop]
   have z2 : (e.op == 2) = false:=by simp [gop]
   have z3 : (e.op == 3) = false:=by simp [gop]
   have HLD:=zI2 hld1
   have gg : (r2 == a2) = true:=beq_iff_eq.2 hld2
   have g9 : (hh == j + 1) = false:=beq_false_of_ne gh
   clear hb ha0 ha1 ha2 ha3 ha4 gop gh hld1 hld2 hr2x hhe
   go_wp2_with fail
   refine zAJ ((0,true) :: (1,true) :: (2,true) :: (3,true) :: (4,true) :: (5,true) :: (6,true) :: (7,true) :: (8,true) :: (9,true) :: (10,true) :: (11,true) :: (12,true) :: (13,true) :: []) (by kernel_rfl) (by kernel_rfl) (by kernel_rfl) (by decide) (fun _ _ _ _ _ h=>h) (fun hHeld=>?_)
   iterate 8 (first | (refine zAC (v := ?_) rfl ?_ ?_ ?_; rotate_left 1; rfl; (focus (intro wS hSw; have hk:=zAE hSw; go_simp; first | done | with_reducible rfl)); (try simp only [Act.put,qset])) | (refine zAD rfl ?_ ?_; rfl; (try simp only [Act.put,qset])))
   refine zAC (v:=.tuple #[.int .i64 r2,.bool true]) rfl rfl (fun wS hSw=>zBT _ _ _ rfl (zCj N) rfl (HW2.out.gens.later hSw) (e.who,j) _ _ rfl HLO.out (by show genO (g e.who j) = _; rw [HLD.out]; exact HR2.out) (by show (g e.who j).isSome = _; rw [HLD.out]; rfl)) ?_
   (try simp only [Act.put,qset])
   iterate 5 (first | (refine zAC (v := ?_) rfl ?_ ?_ ?_; rotate_left 1; rfl; (focus (intro wS hSw; have hk:=zAE hSw; go_simp; first | done | with_reducible rfl)); (try simp only [Act.put,qset])) | (refine zAD rfl ?_ ?_; rfl; (try simp only [Act.put,qset])))
   refine zAI ?_
   have HB3:=zI2 (zAA HB2.out hHeld)
   have HO3:=zI2 (HO2.out.later hHeld)
   have HW3:=zI2 (HW2.out.later hHeld)
   have HV3:=zI2 (HV.out.later hHeld)
   have HMC3:=zI2 (HMC.out.later hHeld)
   generalize wc.drew = w3 at HB3 HO3 HW3 HV3 HMC3 hHeld ⊢
   clear e0 e1 e2 e3 e4 e5 q0 q1 q2 q3 q4 q5 u0 u1 u2 u3 u4 hHeld
   obtain ⟨e0,e1,e2,e3,e4,e5⟩ : _ ∧ _ ∧ _ ∧ _ ∧ _ ∧ _:=⟨HO3.out.at' 0 _ rfl,HO3.out.at' 1 _ rfl,HO3.out.at' 2 _ rfl,HO3.out.at' 3 _ rfl,HO3.out.at' 4 _ rfl,HO3.out.at' 5 _ rfl⟩
   obtain ⟨q0,q1,q2,q3,q4,q5⟩ : _ ∧ _ ∧ _ ∧ _ ∧ _ ∧ _:=⟨HW3.out.obj.at' 0 _ rfl,HW3.out.obj.at' 1 _ rfl,HW3.out.obj.at' 2 _ rfl,HW3.out.obj.at' 3 _ rfl,HW3.out.obj.at' 4 _ rfl,HW3.out.obj.at' 5 _ rfl⟩
   obtain ⟨u0,u1,u2,u3,u4⟩ : _ ∧ _ ∧ _ ∧ _ ∧ _:=⟨HV3.out.at' 0 _ rfl,HV3.out.at' 1 _ rfl,HV3.out.at' 2 _ rfl,HV3.out.at' 3 _ rfl,HV3.out.at' 4 _ rfl⟩
   go_wp2_with fail
   refine zAJ ((0,true) :: (1,true) :: (2,true) :: (3,true) :: (4,true) :: (5,true) :: (6,true) :: (7,true) :: (8,true) :: (9,true) :: (10,true) :: (11,true) :: (12,true) :: (13,true) :: (14,true) :: (15,true) :: (16,true) :: (17,true) :: (20,true) :: (21,true) :: (22,true) :: (18,false) :: (19,true) :: (23,true) :: (24,true) :: (25,true) :: []) (by kernel_rfl) (by kernel_rfl) (by kernel_rfl) (by decide) (fun _ _ _ _ _ h=>h) (fun hHeld=>?_)
   iterate 21 (first | (refine zAC (v := ?_) rfl ?_ ?_ ?_; rotate_left 1; rfl; (focus (intro wS hSw; have hk:=zAE hSw; go_simp; first | done | with_reducible rfl)); (try simp only [Act.put,qset])) | (refine zAD rfl ?_ ?_; rfl; (try simp only [Act.put,qset])))
   refine zAG rfl (fun K hK=>?_)
   go_simp
   go_at_call 110
   refine (zA3 t s so d N e.who _ HLA.out c1 (by omega)).mono ?_
   rintro r w9 ⟨rfl,hb'⟩
   (try go_wp2_with fail)
   refine hK.out _ _ (zAA hHeld hb') ?_
   replace hHeld:=zAA hHeld hb'
   clear hb' hK K
   intro _
   (try simp only [Act.put,qset])
   refine zAC (v:=.int .u64 hh) rfl rfl (fun wS hSw=>zBv _ _ _ rfl zBE rfl (HMC3.out.later hSw) (2 * N + e.who) hh rfl (zIJ n2 t2 c1 c2) HHZ.out) ?_
   (try simp only [Act.put,qset])
   iterate 3 (first | (refine zAC (v := ?_) rfl ?_ ?_ ?_; rotate_left 1; rfl; (focus (intro wS hSw; have hk:=zAE hSw; go_simp; first | done | with_reducible rfl)); (try simp only [Act.put,qset])) | (refine zAD rfl ?_ ?_; rfl; (try simp only [Act.put,qset])))
   refine zAI ?_
   go_wp2_with fail
   go_ret
   exact ⟨rfl,zAA HB3.out hHeld⟩
  ·have hld0:=hld
   obtain ⟨rr,hld1,hld2⟩:=hld
   obtain rfl : b = true:=hb.2 (.inl ⟨gop,hld0,gh⟩)
   clear hld0
   obtain ⟨r2,hr2x⟩ : ∃ z,rr / 8 % 8192 = z:=⟨_,rfl⟩
   have HR2:=zI2 hr2x
   rw [hr2x] at hld2
   obtain ⟨hh,hhe⟩ : ∃ z,f (2 * (N : Int) + e.who) = z:=⟨_,rfl⟩
   have HHZ:=zI2 hhe
   rw [hhe] at gh
   have z0 : (e.op == 0) = true:=by simp [gop]
   have z1 : (e.op == 1) = false:=by simp [gop]
   have z2 : (e.op == 2) = false:=by simp [gop]
   have z3 : (e.op == 3) = false:=by simp [gop]
   have HLD:=zI2 hld1
   have gg : (r2 == a2) = true:=beq_iff_eq.2 hld2
   have g9 : (hh == j + 1) = true:=beq_iff_eq.2 gh
   clear hb ha0 ha1 ha2 ha3 ha4 gop gh hld1 hld2 hr2x hhe
   go_wp2_with fail
   refine zAJ ((0,true) :: (1,true) :: (2,true) :: (3,true) :: (4,true) :: (5,true) :: (6,true) :: (7,true) :: (8,true) :: (9,true) :: (10,true) :: (11,true) :: (12,true) :: (13,true) :: []) (by kernel_rfl) (by kernel_rfl) (by kernel_rfl) (by decide) (fun _ _ _ _ _ h=>h) (fun hHeld=>?_)
   iterate 8 (first | (refine zAC (v := ?_) rfl ?_ ?_ ?_; rotate_left 1; rfl; (focus (intro wS hSw; have hk:=zAE hSw; go_simp; first | done | with_reducible rfl)); (try simp only [Act.put,qset])) | (refine zAD rfl ?_ ?_; rfl; (try simp only [Act.put,qset])))
   refine zAC (v:=.tuple #[.int .i64 r2,.bool true]) rfl rfl (fun wS hSw=>zBT _ _ _ rfl (zCj N) rfl (HW2.out.gens.later hSw) (e.who,j) _ _ rfl HLO.out (by show genO (g e.who j) = _; rw [HLD.out]; exact HR2.out) (by show (g e.who j).isSome = _; rw [HLD.out]; rfl)) ?_
   (try simp only [Act.put,qset])
   iterate 5 (first | (refine zAC (v := ?_) rfl ?_ ?_ ?_; rotate_left 1; rfl; (focus (intro wS hSw; have hk:=zAE hSw; go_simp; first | done | with_reducible rfl)); (try simp only [Act.put,qset])) | (refine zAD rfl ?_ ?_; rfl; (try simp only [Act.put,qset])))
   refine zAI ?_
   have HB3:=zI2 (zAA HB2.out hHeld)
   have HO3:=zI2 (HO2.out.later hHeld)
   have HW3:=zI2 (HW2.out.later hHeld)
   have HV3:=zI2 (HV.out.later hHeld)
   have HMC3:=zI2 (HMC.out.later hHeld)
   generalize wc.drew = w3 at HB3 HO3 HW3 HV3 HMC3 hHeld ⊢
   clear e0 e1 e2 e3 e4 e5 q0 q1 q2 q3 q4 q5 u0 u1 u2 u3 u4 hHeld
   obtain ⟨e0,e1,e2,e3,e4,e5⟩ : _ ∧ _ ∧ _ ∧ _ ∧ _ ∧ _:=⟨HO3.out.at' 0 _ rfl,HO3.out.at' 1 _ rfl,HO3.out.at' 2 _ rfl,HO3.out.at' 3 _ rfl,HO3.out.at' 4 _ rfl,HO3.out.at' 5 _ rfl⟩
   obtain ⟨q0,q1,q2,q3,q4,q5⟩ : _ ∧ _ ∧ _ ∧ _ ∧ _ ∧ _:=⟨HW3.out.obj.at' 0 _ rfl,HW3.out.obj.at' 1 _ rfl,HW3.out.obj.at' 2 _ rfl,HW3.out.obj.at' 3 _ rfl,HW3.out.obj.at' 4 _ rfl,HW3.out.obj.at' 5 _ rfl⟩
   obtain ⟨u0,u1,u2,u3,u4⟩ : _ ∧ _ ∧ _ ∧ _ ∧ _:=⟨HV3.out.at' 0 _ rfl,HV3.out.at' 1 _ rfl,HV3.out.at' 2 _ rfl,HV3.out.at' 3 _ rfl,HV3.out.at' 4 _ rfl⟩
   go_wp2_with fail
   refine zAJ ((0,true) :: (1,true) :: (2,true) :: (3,true) :: (4,true) :: (5,true) :: (6,true) :: (7,true) :: (8,true) :: (9,true) :: (10,true) :: (11,true) :: (12,true) :: (13,true) :: (14,true) :: (15,true) :: (16,true) :: (17,true) :: (20,true) :: (21,true) :: (22,true) :: (18,false) :: (19,true) :: (23,true) :: (24,true) :: (25,true) :: []) (by kernel_rfl) (by kernel_rfl) (by kernel_rfl) (by decide) (fun _ _ _ _ _ h=>h) (fun hHeld=>?_)
   iterate 21 (first | (refine zAC (v := ?_) rfl ?_ ?_ ?_; rotate_left 1; rfl; (focus (intro wS hSw; have hk:=zAE hSw; go_simp; first | done | with_reducible rfl)); (try simp only [Act.put,qset])) | (refine zAD rfl ?_ ?_; rfl; (try simp only [Act.put,qset])))
   refine zAG rfl (fun K hK=>?_)
   go_simp
   go_at_call 110
   refine (zA3 t s so d N e.who _ HLA.out c1 (by omega)).mono ?_
   rintro r w9 ⟨rfl,hb'⟩
   (try go_wp2_with fail)
   refine hK.out _ _ (zAA hHeld hb') ?_
   replace hHeld:=zAA hHeld hb'
   clear hb' hK K
   intro _
   (try simp only [Act.put,qset])
   refine zAC (v:=.int .u64 hh) rfl rfl (fun wS hSw=>zBv _ _ _ rfl zBE rfl (HMC3.out.later hSw) (2 * N + e.who) hh rfl (zIJ n2 t2 c1 c2) HHZ.out) ?_
   (try simp only [Act.put,qset])
   iterate 3 (first | (refine zAC (v := ?_) rfl ?_ ?_ ?_; rotate_left 1; rfl; (focus (intro wS hSw; have hk:=zAE hSw; go_simp; first | done | with_reducible rfl)); (try simp only [Act.put,qset])) | (refine zAD rfl ?_ ?_; rfl; (try simp only [Act.put,qset])))
   refine zAI ?_
   go_wp2_with fail
   go_ret
   exact ⟨rfl,zAA HB3.out hHeld⟩
  ·obtain rfl : b = false:=by
    cases b with
    | false=>rfl
    | true =>
     rcases hb.1 rfl with ⟨q,⟨r,hr,hr2⟩,hr3⟩ | ⟨q,q2,q3⟩
     ·omega
     ·exact absurd q2 g1
   have z0 : (e.op == 0) = false:=by simp [gop]
   have z1 : (e.op == 1) = true:=by simp [gop]
   have z2 : (e.op == 2) = false:=by simp [gop]
   have z3 : (e.op == 3) = false:=by simp [gop]
   have ow : (e.who == j / s) = false:=beq_false_of_ne g1
   clear hb ha0 ha1 ha2 ha3 ha4 gop g1
   go_wp2_with fail
   refine zAJ ((0,true) :: (1,true) :: (2,true) :: (3,true) :: (4,true) :: (5,true) :: (6,true) :: (7,false) :: (8,true) :: (9,true) :: (10,true) :: (11,true) :: (12,true) :: (13,true) :: (14,true) :: []) (by kernel_rfl) (by kernel_rfl) (by kernel_rfl) (by decide) (fun _ _ _ _ _ h=>h) (fun hHeld=>?_)
   iterate 7 (first | (refine zAC (v := ?_) rfl ?_ ?_ ?_; rotate_left 1; rfl; (focus (intro wS hSw; have hk:=zAE hSw; go_simp; first | done | with_reducible rfl)); (try simp only [Act.put,qset])) | (refine zAD rfl ?_ ?_; rfl; (try simp only [Act.put,qset])))
   refine zAG rfl (fun K hK=>?_)
   go_simp
   go_at_call 112
   refine (zAh t s so d N j _ HLA.out hj0 hj1).mono ?_
   rintro r w9 ⟨rfl,hb'⟩
   (try go_wp2_with fail)
   refine hK.out _ _ (zAA hHeld hb') ?_
   replace hHeld:=zAA hHeld hb'
   clear hb' hK K
   intro _
   (try simp only [Act.put,qset])
   iterate 7 (first | (refine zAC (v := ?_) rfl ?_ ?_ ?_; rotate_left 1; rfl; (focus (intro wS hSw; have hk:=zAE hSw; go_simp; first | done | with_reducible rfl)); (try simp only [Act.put,qset])) | (refine zAD rfl ?_ ?_; rfl; (try simp only [Act.put,qset])))
   refine zAI ?_
   go_wp2_with fail
   go_ret
   exact ⟨rfl,zAA HB2.out hHeld⟩
  ·obtain rfl : b = false:=by
    cases b with
    | false=>rfl
    | true =>
     rcases hb.1 rfl with ⟨q,⟨r,hr,hr2⟩,hr3⟩ | ⟨q,q2,q3⟩
     ·omega
     ·omega
   have z0 : (e.op == 0) = false:=by simp [gop]
   have z1 : (e.op == 1) = true:=by simp [gop]
   have z2 : (e.op == 2) = false:=by simp [gop]
   have z3 : (e.op == 3) = false:=by simp [gop]
   have ow : (e.who == j / s) = true:=beq_iff_eq.2 g1
   have os : (a0 != 1) = false:=by simp [g2]
   clear hb ha0 ha1 ha2 ha3 ha4 gop g1 g2
   go_wp2_with fail
   refine zAJ ((0,true) :: (1,true) :: (2,true) :: (3,true) :: (4,true) :: (5,true) :: (6,true) :: (7,false) :: (8,true) :: (9,true) :: (10,true) :: (11,true) :: (12,true) :: (13,true) :: (14,true) :: []) (by kernel_rfl) (by kernel_rfl) (by kernel_rfl) (by decide) (fun _ _ _ _ _ h=>h) (fun hHeld=>?_)
   iterate 7 (first | (refine zAC (v := ?_) rfl ?_ ?_ ?_; rotate_left 1; rfl; (focus (intro wS hSw; have hk:=zAE hSw; go_simp; first | done | with_reducible rfl)); (try simp only [Act.put,qset])) | (refine zAD rfl ?_ ?_; rfl; (try simp only [Act.put,qset])))
   refine zAG rfl (fun K hK=>?_)
   go_simp
   go_at_call 112
   refine (zAh t s so d N j _ HLA.out hj0 hj1).mono ?_
   rintro r w9 ⟨rfl,hb'⟩
   (try go_wp2_with fail)
   refine hK.out _ _ (zAA hHeld hb') ?_
   replace hHeld:=zAA hHeld hb'
   clear hb' hK K
   intro _
   (try simp only [Act.put,qset])
   iterate 7 (first | (refine zAC (v := ?_) rfl ?_ ?_ ?_; rotate_left 1; rfl; (focus (intro wS hSw; have hk:=zAE hSw; go_simp; first | done | with_reducible rfl)); (try simp only [Act.put,qset])) | (refine zAD rfl ?_ ?_; rfl; (try simp only [Act.put,qset])))
   refine zAI ?_
   go_wp2_with fail
   go_ret
   exact ⟨rfl,zAA HB2.out hHeld⟩
  ·obtain rfl : b = true:=hb.2 (.inr ⟨gop,g1,g2⟩)
   have z0 : (e.op == 0) = false:=by simp [gop]
   have z1 : (e.op == 1) = true:=by simp [gop]
   have z2 : (e.op == 2) = false:=by simp [gop]
   have z3 : (e.op == 3) = false:=by simp [gop]
   have ow : (e.who == j / s) = true:=beq_iff_eq.2 g1
   have os : (a0 != 1) = true:=bne_iff_ne.2 g2
   clear hb ha0 ha1 ha2 ha3 ha4 gop g1 g2
   go_wp2_with fail
   refine zAJ ((0,true) :: (1,true) :: (2,true) :: (3,true) :: (4,true) :: (5,true) :: (6,true) :: (7,false) :: (8,true) :: (9,true) :: (10,true) :: (11,true) :: (12,true) :: (13,true) :: (14,true) :: []) (by kernel_rfl) (by kernel_rfl) (by kernel_rfl) (by decide) (fun _ _ _ _ _ h=>h) (fun hHeld=>?_)
   iterate 7 (first | (refine zAC (v := ?_) rfl ?_ ?_ ?_; rotate_left 1; rfl; (focus (intro wS hSw; have hk:=zAE hSw; go_simp; first | done | with_reducible rfl)); (try simp only [Act.put,qset])) | (refine zAD rfl ?_ ?_; rfl; (try simp only [Act.put,qset])))
   refine zAG rfl (fun K hK=>?_)
   go_simp
   go_at_call 112
   refine (zAh t s so d N j _ HLA.out hj0 hj1).mono ?_
   rintro r w9 ⟨rfl,hb'⟩
   (try go_wp2_with fail)
   refine hK.out _ _ (zAA hHeld hb') ?_
   replace hHeld:=zAA hHeld hb'
   clear hb' hK K
   intro _
   (try simp only [Act.put,qset])
   iterate 7 (first | (refine zAC (v := ?_) rfl ?_ ?_ ?_; rotate_left 1; rfl; (focus (intro wS hSw; have hk:=zAE hSw; go_simp; first | done | with_reducible rfl)); (try simp only [Act.put,qset])) | (refine zAD rfl ?_ ?_; rfl; (try simp only [Act.put,qset])))
   refine zAI ?_
   go_wp2_with fail
   go_ret
   exact ⟨rfl,zAA HB2.out hHeld⟩
  ·obtain rfl : b = false:=by
    cases b with
    | false=>rfl
    | true =>
     rcases hb.1 rfl with ⟨q,⟨r,hr,hr2⟩,hr3⟩ | ⟨q,q2,q3⟩
     ·omega
     ·omega
   have z0 : (e.op == 0) = false:=beq_false_of_ne gn0
   have z1 : (e.op == 1) = false:=beq_false_of_ne gn1
   obtain ⟨zz2,z2⟩ : ∃ z,(e.op == 2) = z:=⟨_,rfl⟩
   obtain ⟨zz3,z3⟩ : ∃ z,(e.op == 3) = z:=⟨_,rfl⟩
   clear hb ha0 ha1 ha2 ha3 ha4 gn0 gn1
   go_wp2_with fail
   go_ret
   exact ⟨rfl,HB2.out⟩
end
end
end Go.Proofs.YtebgjfhaolgcjaaGreat
