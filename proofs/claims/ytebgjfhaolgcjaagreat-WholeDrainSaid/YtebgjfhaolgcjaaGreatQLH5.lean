/- Contracts and plain lemmas that these laws need. No condition. -/
import Derived.Deep.DeepCutAuto
import Derived.Ground.SlsfProg
import Derived.Ground.SlsgProg
import Derived.Shelf.SlCmpFuncs.MinMaxFunc
import Derived.Shelf.SlGeneric
import Derived.Shelf.SlSortCmp.NoneTotal
import Derived.Shelf.SlSortCmp.Whole1
import Derived.Test.YtebgjfhaolgcjaaGreatProg
import Derived.Test.YtebgjfhaolgcjaaGreatQLH1
namespace Go.Proofs.YtebgjfhaolgcjaaGreat
set_option linter.unusedVariables false
set_option maxHeartbeats 8000000
set_option maxRecDepth 100000
section
open Go.RowKit
section
def lkey (a b : Int) (i : Nat) : Int:=(a * 16777216 + b) * 1048576 + i
theorem zDT {a b : Int} {i : Nat} (a0 : 0 ≤ a) (b0 : 0 ≤ b) : 0 ≤ lkey a b i:=by unfold lkey; omega
theorem zBL (a b c d : Int) : (cmpS a b c d = -1 ∧ (a < c ∨ (a = c ∧ b < d))) ∨ (cmpS a b c d = 0 ∧ a = c ∧ b = d) ∨ (cmpS a b c d = 1 ∧ (c < a ∨ (a = c ∧ d < b))):=by
 unfold cmpS orI cmpI
 rcases Int.lt_trichotomy a c with h | h | h
 ·left
  simp [h]
 ·subst h
  rcases Int.lt_trichotomy b d with h2 | h2 | h2
  ·left
   simp [h2]
  ·subst h2
   right; left
   simp
  ·right; right
   have h3 : ¬ b < d:=by omega
   simp [h2,h3]
 ·right; right
  have h3 : ¬ a < c:=by omega
  simp [h,h3]
theorem zD2 {a b c d : Int} {i j : Nat} (b0 : 0 ≤ b) (b1 : b < 16777216) (d0 : 0 ≤ d) (d1 : d < 16777216) (i1 : i < 1048576) (j1 : j < 1048576) :
  (0 < cmpS a b c d ∨ (cmpS a b c d = 0 ∧ j < i)) ↔ lkey c d j < lkey a b i:=by
 unfold lkey
 rcases zBL a b c d with ⟨h,h2⟩ | ⟨h,rfl,rfl⟩ | ⟨h,h2⟩
 ·rw [h]
  constructor
  ·rintro (h3 | ⟨h3,_⟩) <;> omega
  ·intro h3
   omega
 ·rw [h]
  constructor
  ·rintro (h3 | ⟨_,h3⟩) <;> omega
  ·intro h3
   exact .inr ⟨rfl,by omega⟩
 ·rw [h]
  constructor
  ·intro _
   omega
  ·intro _
   exact .inl (by decide)
def pkey (e a b : Int) (i : Nat) : Int:=if e = 0 then -1 - lkey a b i else lkey a b i
theorem zHY {e f a b c d : Int} {i j : Nat} (he : e = 0 ∨ e = 1) (hf : f = 0 ∨ f = 1) (a0 : 0 ≤ a) (b0 : 0 ≤ b) (b1 : b < 16777216) (c0 : 0 ≤ c) (d0 : 0 ≤ d) (d1 : d < 16777216) (i1 : i < 1048576) (j1 : j < 1048576) (h : pkey e a b i = pkey f c d j) : i = j ∧ e = f ∧ a = c ∧ b = d:=by
 have n1:=zDT (i:=i) a0 b0
 have n2:=zDT (i:=j) c0 d0
 unfold pkey at h
 rcases he with rfl | rfl <;> rcases hf with rfl | rfl
 ·rw [if_pos rfl,if_pos rfl] at h
  unfold lkey at h
  omega
 ·rw [if_pos rfl,if_neg (by decide)] at h
  omega
 ·rw [if_neg (by decide),if_pos rfl] at h
  omega
 ·rw [if_neg (by decide),if_neg (by decide)] at h
  unfold lkey at h
  omega
end
section
open Go.Shelf
def sortL_ren : Go.Shelf.Ren:=⟨fun | 6=>77 | 15=>101 | 14=>100 | 28=>141 | 29=>142 | 20=>133 | 21=>134 | 22=>135 | 23=>136 | 24=>137 | 25=>138 | 26=>139 | 27=>140 | 46=>159 | 47=>160 | 48=>161 | 49=>162 | 50=>163 | 57=>176 | n=>n,fun | 22=>82 | 24=>3 | 25=>138 | 3=>3 | 39=>92 | 0=>0 | 53=>206 | 55=>30 | 4=>4 | 46=>200 | 45=>199 | 50=>182 | 5=>5 | 9=>9 | 66=>222 | 70=>225 | 76=>233 | 77=>234 | n=>n,fun | n=>n⟩
theorem sortL : Go.Proofs.SlLaysF.n6 Tryz.prog sortL_ren := {
 mixed:=by kernel_rfl
 f6:=⟨Tryz.f77.name,by decide,Tryz.func77.trans (congrArg some (by kernel_rfl))⟩
 f14:=⟨Tryz.f100.name,by decide,Tryz.func100.trans (congrArg some (by kernel_rfl))⟩
 f15:=Tryz.func101.trans (congrArg some (by kernel_rfl))
 f20:=⟨Tryz.f133.name,by decide,Tryz.func133.trans (congrArg some (by kernel_rfl))⟩
 f21:=⟨Tryz.f134.name,by decide,Tryz.func134.trans (congrArg some (by kernel_rfl))⟩
 f22:=⟨Tryz.f135.name,by decide,Tryz.func135.trans (congrArg some (by kernel_rfl))⟩
 f23:=⟨Tryz.f136.name,by decide,Tryz.func136.trans (congrArg some (by kernel_rfl))⟩
 f24:=⟨Tryz.f137.name,by decide,Tryz.func137.trans (congrArg some (by kernel_rfl))⟩
 f25:=⟨Tryz.f138.name,by decide,Tryz.func138.trans (congrArg some (by kernel_rfl))⟩
 f26:=⟨Tryz.f139.name,by decide,Tryz.func139.trans (congrArg some (by kernel_rfl))⟩
 f27:=⟨Tryz.f140.name,by decide,Tryz.func140.trans (congrArg some (by kernel_rfl))⟩
 f28:=Tryz.func141.trans (congrArg some (by kernel_rfl))
 f29:=Tryz.func142.trans (congrArg some (by kernel_rfl))
 f46:=⟨Tryz.f159.name,by decide,Tryz.func159.trans (congrArg some (by kernel_rfl))⟩
 f47:=Tryz.func160.trans (congrArg some (by kernel_rfl))
 f48:=Tryz.func161.trans (congrArg some (by kernel_rfl))
 f49:=⟨Tryz.f162.name,by decide,Tryz.func162.trans (congrArg some (by kernel_rfl))⟩
 f50:=⟨Tryz.f163.name,by decide,Tryz.func163.trans (congrArg some (by kernel_rfl))⟩
 f57:=⟨Tryz.f176.name,by decide,Tryz.func176.trans (congrArg some (by kernel_rfl))⟩
 t0:=Tryz.underlying0
 a0:=Tryz.isAgg0
 z0:=Tryz.sizeOf0
 v0:=Tryz.zeroValue0
 t3:=Tryz.underlying3
 a3:=Tryz.isAgg3
 z3:=Tryz.sizeOf3
 v3:=Tryz.zeroValue3
 t4:=Tryz.underlying4
 a4:=Tryz.isAgg4
 z4:=Tryz.sizeOf4
 v4:=Tryz.zeroValue4
 t5:=Tryz.underlying5
 a5:=Tryz.isAgg5
 z5:=Tryz.sizeOf5
 v5:=Tryz.zeroValue5
 t9:=Tryz.underlying9
 a9:=Tryz.isAgg9
 z9:=Tryz.sizeOf9
 v9:=Tryz.zeroValue9
 t22:=Tryz.underlying82
 a22:=Tryz.isAgg82
 z22:=Tryz.sizeOf82
 v22:=Tryz.zeroValue82
 a24:=Tryz.isAgg3
 z24:=Tryz.sizeOf3
 t25:=Tryz.underlying138
 a25:=Tryz.isAgg138
 z25:=Tryz.sizeOf138
 v25:=Tryz.zeroValue138
 t39:=Tryz.underlying92
 a39:=Tryz.isAgg92
 z39:=Tryz.sizeOf92
 v39:=Tryz.zeroValue92
 t45:=Tryz.underlying199
 a45:=Tryz.isAgg199
 z45:=Tryz.sizeOf199
 v45:=Tryz.zeroValue199
 t46:=Tryz.underlying200
 a46:=Tryz.isAgg200
 z46:=Tryz.sizeOf200
 v46:=Tryz.zeroValue200
 t50:=Tryz.underlying182
 a50:=Tryz.isAgg182
 z50:=Tryz.sizeOf182
 v50:=Tryz.zeroValue182
 t53:=Tryz.underlying206
 a53:=Tryz.isAgg206
 z53:=Tryz.sizeOf206
 v53:=Tryz.zeroValue206
 t55:=Tryz.underlying30
 a55:=Tryz.isAgg30
 z55:=Tryz.sizeOf30
 v55:=Tryz.zeroValue30
 t66:=Tryz.underlying222
 a66:=Tryz.isAgg222
 z66:=Tryz.sizeOf222
 v66:=Tryz.zeroValue222
 t70:=Tryz.underlying225
 a70:=Tryz.isAgg225
 z70:=Tryz.sizeOf225
 v70:=Tryz.zeroValue225
 t76:=Tryz.underlying233
 a76:=Tryz.isAgg233
 z76:=Tryz.sizeOf233
 v76:=Tryz.zeroValue233
 t77:=Tryz.underlying234
 a77:=Tryz.isAgg234
 z77:=Tryz.sizeOf234
 v77:=Tryz.zeroValue234 }
def minL_ren : Go.Shelf.Ren:=⟨fun | 10=>173 | n=>n,fun | 22=>82 | 24=>3 | 25=>138 | 3=>3 | 4=>4 | 9=>9 | 20=>20 | 0=>0 | n=>n,fun | n=>n⟩
theorem minL : Go.Proofs.SlLaysG2.n10 Tryz.prog minL_ren := {
 mixed:=by kernel_rfl
 f10:=⟨Tryz.f173.name,by decide,Tryz.func173.trans (congrArg some (by kernel_rfl))⟩
 t0:=Tryz.underlying0
 a0:=Tryz.isAgg0
 z0:=Tryz.sizeOf0
 v0:=Tryz.zeroValue0
 t3:=Tryz.underlying3
 a3:=Tryz.isAgg3
 z3:=Tryz.sizeOf3
 v3:=Tryz.zeroValue3
 t4:=Tryz.underlying4
 a4:=Tryz.isAgg4
 z4:=Tryz.sizeOf4
 v4:=Tryz.zeroValue4
 t9:=Tryz.underlying9
 a9:=Tryz.isAgg9
 z9:=Tryz.sizeOf9
 v9:=Tryz.zeroValue9
 t20:=Tryz.underlying20
 a20:=Tryz.isAgg20
 z20:=Tryz.sizeOf20
 v20:=Tryz.zeroValue20
 t22:=Tryz.underlying82
 a22:=Tryz.isAgg82
 z22:=Tryz.sizeOf82
 v22:=Tryz.zeroValue82
 a24:=Tryz.isAgg3
 z24:=Tryz.sizeOf3
 t25:=Tryz.underlying138
 a25:=Tryz.isAgg138
 z25:=Tryz.sizeOf138
 v25:=Tryz.zeroValue138 }
def maxL_ren : Go.Shelf.Ren:=⟨fun | 12=>174 | n=>n,fun | 22=>82 | 24=>3 | 25=>138 | 3=>3 | 4=>4 | 9=>9 | 20=>20 | 0=>0 | n=>n,fun | n=>n⟩
theorem maxL : Go.Proofs.SlLaysG2.n12 Tryz.prog maxL_ren := {
 mixed:=by kernel_rfl
 f12:=⟨Tryz.f174.name,by decide,Tryz.func174.trans (congrArg some (by kernel_rfl))⟩
 t0:=Tryz.underlying0
 a0:=Tryz.isAgg0
 z0:=Tryz.sizeOf0
 v0:=Tryz.zeroValue0
 t3:=Tryz.underlying3
 a3:=Tryz.isAgg3
 z3:=Tryz.sizeOf3
 v3:=Tryz.zeroValue3
 t4:=Tryz.underlying4
 a4:=Tryz.isAgg4
 z4:=Tryz.sizeOf4
 v4:=Tryz.zeroValue4
 t9:=Tryz.underlying9
 a9:=Tryz.isAgg9
 z9:=Tryz.sizeOf9
 v9:=Tryz.zeroValue9
 t20:=Tryz.underlying20
 a20:=Tryz.isAgg20
 z20:=Tryz.sizeOf20
 v20:=Tryz.zeroValue20
 t22:=Tryz.underlying82
 a22:=Tryz.isAgg82
 z22:=Tryz.sizeOf82
 v22:=Tryz.zeroValue82
 a24:=Tryz.isAgg3
 z24:=Tryz.sizeOf3
 t25:=Tryz.underlying138
 a25:=Tryz.isAgg138
 z25:=Tryz.sizeOf138
 v25:=Tryz.zeroValue138 }
end
section
def laterI (x y : Int) (i j : Nat) : Int:=orI (cmpS (x / 65536 % 16777216) (x / 1099511627776) (y / 65536 % 16777216) (y / 1099511627776)) (cmpI i j)
theorem zGX (x y : Int) (i j : Nat) : -1 ≤ laterI x y i j ∧ laterI x y i j ≤ 1:=by
 unfold laterI orI cmpS orI cmpI
 repeat' split
 all_goals omega
def rightI (x y : Int) (i j : Nat) : Int:=orI (cmpI (x / 4 % 2) (y / 4 % 2)) (if x / 4 % 2 = 0 then -laterI x y i j else laterI x y i j)
def At2r (B b o1 o2 : Nat) (v : Value) (x y : Int) (w : World) : Prop:=w.cell? ⟨B,0,none⟩ = some v ∧ w.cell? ⟨b,o1,none⟩ = some (u64 x) ∧ w.cell? ⟨b,o2,none⟩ = some (u64 y)
theorem At2r.gr {B b o1 o2 : Nat} {v : Value} {x y : Int} {w w' : World} (h : At2r B b o1 o2 v x y w) (k : Gr w w') : At2r B b o1 o2 v x y w':=⟨k.cell h.1,k.cell h.2.1,k.cell h.2.2⟩
theorem set5 {W ww : World} {b : Nat} (hG : Gr W ww) (hv : IsObj ww b [i64 0,i64 0,i64 0,i64 0,i64 0]) (hs : W.heap.size ≤ b) (u0 u1 u2 u3 u4 : Value) :
  Gr W (((((ww.setCell ⟨b,0,none⟩ u0).setCell ⟨b,1,none⟩ u1).setCell ⟨b,2,none⟩ u2).setCell ⟨b,3,none⟩ u3).setCell ⟨b,4,none⟩ u4) ∧ IsObj (((((ww.setCell ⟨b,0,none⟩ u0).setCell ⟨b,1,none⟩ u1).setCell ⟨b,2,none⟩ u2).setCell ⟨b,3,none⟩ u3).setCell ⟨b,4,none⟩ u4) b [u0,u1,u2,u3,u4] ∧
   ∀ c ys,IsObj ww c ys → b ≠ c → IsObj (((((ww.setCell ⟨b,0,none⟩ u0).setCell ⟨b,1,none⟩ u1).setCell ⟨b,2,none⟩ u2).setCell ⟨b,3,none⟩ u3).setCell ⟨b,4,none⟩ u4) c ys :=
 ⟨((((hG.set hs _).set hs _).set hs _).set hs _).set hs _,((((hv.set 0 u0).set 1 u1).set 2 u2).set 3 u3).set 4 u4,fun c ys h hn=>((((h.other 0 u0 hn).other 1 u1 hn).other 2 u2 hn).other 3 u3 hn).other 4 u4 hn⟩
theorem zDW (W : World) (B b off n cap : Nat) (i j : Nat) (x y : Int) (hi : i < n) (hj : j < n) (hn : n ≤ 1000000) (hA : At2r B b (off + i) (off + j) (.slice (some ⟨b,off,none⟩) n cap) x y W) (x0 : 0 ≤ x) (x1 : x ≤ 18446744073709551615) (y0 : 0 ≤ y) (y1 : y ≤ 18446744073709551615) :
  Calls Tryz.prog 102 #[i64 i,i64 j,.pointer (some ⟨B,0,none⟩)] W fun e w'=>e = .returned (i64 (rightI x y i j)) ∧ Gr W w':=by
 have i0 : (0 : Int) ≤ (i : Int):=by omega
 have i1 : (i : Int) < (n : Int):=by omega
 have j0 : (0 : Int) ≤ (j : Int):=by omega
 have j1 : (j : Int) < (n : Int):=by omega
 obtain ⟨a0,a1,a2⟩:=id hA
 have HA:=zIn hA
 clear hA
 go_enter Tryz.func102,Tryz.ntmps102
 go_wp2_with fail
 go_cut [6,7] (fun s6 s7 wx => ∃ bv bw,s6 = .pointer (some ⟨bv,0,none⟩) ∧ s7 = .pointer (some ⟨bw,0,none⟩) ∧ Hid (IsObj wx bv [i64 (x % 4),i64 (x / 4 % 2),i64 (x / 8 % 8192),i64 (x / 65536 % 16777216),i64 (x / 1099511627776)]) ∧ Hid (IsObj wx bw [i64 (y % 4),i64 (y / 4 % 2),i64 (y / 8 % 8192),i64 (y / 65536 % 16777216),i64 (y / 1099511627776)]) ∧ Hid (Gr W wx))
 case first =>
  refine zA2 (At2r B b (off + i) (off + j) (.slice (some ⟨b,off,none⟩) n cap) x y) (.take 0 (.take 1 (.take 2 (.take 3 (.take 5 (.take 6 (.take 7 (.take 8 (.three 4 (.three 9 (.two 10 (.one 11 (.one 12 (.one 13 .nil))) 11 (.one 10 (.one 12 (.one 13 .nil)))) 10 (.two 9 (.one 11 (.one 12 (.one 13 .nil))) 11 (.one 9 (.one 12 (.one 13 .nil)))) 11 (.two 9 (.one 10 (.one 12 (.one 13 .nil))) 10 (.one 9 (.one 12 (.one 13 .nil))))) 10 (.two 4 (.two 9 (.one 11 (.one 12 (.one 13 .nil))) 11 (.one 9 (.one 12 (.one 13 .nil)))) 11 (.one 4 (.one 9 (.one 12 (.one 13 .nil))))) 11 (.two 4 (.two 9 (.one 10 (.one 12 (.one 13 .nil))) 10 (.one 9 (.one 12 (.one 13 .nil)))) 10 (.one 4 (.one 9 (.one 12 (.one 13 .nil)))))))))))))) (by kernel_rfl) (by kernel_rfl) (by kernel_rfl) (by decide) (fun _ _ _ _ _ h=>h) HA.out ?_
  repeat (refine zAe (v := ?_) rfl ?_ ?_ ?_; rotate_left 1; rfl; (focus (intro wS hSw; obtain ⟨c0,c1,c2⟩:=hSw; go_simp; first | done | with_reducible rfl)); (try simp only [Act.put,qset]))
  have HA0:=HA
  clear a0 a1 a2
  have HG : Hid (Gr W W.drew):=(Gr.refl W).drew
  replace HA : Hid (At2r B b (off + i) (off + j) (.slice (some ⟨b,off,none⟩) n cap) x y W.drew):=HA.out
  generalize W.drew = ww0 at HG HA ⊢
  refine ⟨?_, ?_, ?_⟩
  ·refine runT rfl (fun K hK=>?_)
   go_simp
   go_at_call 64
   refine (zAP x _ x0 x1).mono ?_
   rintro r ww1 ⟨rfl,hb⟩
   (try go_wp2_with fail)
   replace HA:=zIn (HA.out.gr hb)
   replace HG:=zIn (HG.out.step hb)
   clear hb
   refine hK.out _ _ HA.out (fun _=>?_)
   (try simp only [Act.put,qset])
   clear hK K
   try clear ww0
   refine ⟨?_, ?_, ?_⟩
   ·refine runT rfl (fun K hK=>?_)
    go_simp
    go_at_call 64
    refine (zAP y _ y0 y1).mono ?_
    rintro r ww2 ⟨rfl,hb⟩
    (try go_wp2_with fail)
    replace HA:=zIn (HA.out.gr hb)
    replace HG:=zIn (HG.out.step hb)
    clear hb
    refine hK.out _ _ HA.out (fun _=>?_)
    (try simp only [Act.put,qset])
    clear hK K
    try clear ww1
    refine ⟨?_, ?_⟩
    ·refine runT rfl (fun K hK=>?_)
     go_simp
     have hb:=(Gr.refl ww2).new (.cells #[i64 0,i64 0,i64 0,i64 0,i64 0] 122)
     have Hv : Hid (IsObj (ww2.alloc (.cells #[i64 0,i64 0,i64 0,i64 0,i64 0] 122)) ww2.heap.size [i64 0,i64 0,i64 0,i64 0,i64 0]):=IsObj.made ww2 [i64 0,i64 0,i64 0,i64 0,i64 0] 122
     have Hsv : Hid (W.heap.size ≤ ww2.heap.size):=HG.out.below.size
     replace HA:=zIn (HA.out.gr hb)
     replace HG:=zIn (HG.out.step hb)
     clear hb
     generalize ww2.alloc (.cells #[i64 0,i64 0,i64 0,i64 0,i64 0] 122) = ww3 at HA HG Hv ⊢
     generalize ww2.heap.size = bv at Hv Hsv ⊢
     refine hK.out _ _ HA.out (fun _=>?_)
     (try simp only [Act.put,qset])
     clear hK K
     try clear ww2
     refine runT rfl (fun K hK=>?_)
     go_simp
     have hb:=(Gr.refl ww3).new (.cells #[i64 0,i64 0,i64 0,i64 0,i64 0] 122)
     have Hw : Hid (IsObj (ww3.alloc (.cells #[i64 0,i64 0,i64 0,i64 0,i64 0] 122)) ww3.heap.size [i64 0,i64 0,i64 0,i64 0,i64 0]):=IsObj.made ww3 [i64 0,i64 0,i64 0,i64 0,i64 0] 122
     have Hne : Hid (bv ≠ ww3.heap.size):=by have:=Hv.out.lt; show _ ≠ _; omega
     replace Hv:=zIn (Hv.out.later hb.below)
     have Hsw : Hid (W.heap.size ≤ ww3.heap.size):=HG.out.below.size
     replace HA:=zIn (HA.out.gr hb)
     replace HG:=zIn (HG.out.step hb)
     clear hb
     generalize ww3.alloc (.cells #[i64 0,i64 0,i64 0,i64 0,i64 0] 122) = ww4 at HA HG Hw Hv ⊢
     generalize ww3.heap.size = bw at Hw Hsw Hne ⊢
     refine hK.out _ _ HA.out (fun _=>?_)
     (try simp only [Act.put,qset])
     clear hK K
     try clear ww3
     refine runT rfl (fun K hK=>?_)
     have q0:=Hv.out.at' 0 _ rfl
     have q1:=Hv.out.at' 1 _ rfl
     have q2:=Hv.out.at' 2 _ rfl
     have q3:=Hv.out.at' 3 _ rfl
     have q4:=Hv.out.at' 4 _ rfl
     have f0:=Hv.out.fz 0
     have f1:=Hv.out.fz 1
     have f2:=Hv.out.fz 2
     have f3:=Hv.out.fz 3
     have f4:=Hv.out.fz 4
     go_simp
     clear q0 q1 q2 q3 q4 f0 f1 f2 f3 f4
     obtain ⟨g1,g2,g3⟩:=set5 HG.out Hv.out Hsv.out (i64 (x % 4)) (i64 (x / 4 % 2)) (i64 (x / 8 % 8192)) (i64 (x / 65536 % 16777216)) (i64 (x / 1099511627776))
     replace HG:=zIn g1
     replace Hv:=zIn g2
     replace Hw:=zIn (g3 _ _ Hw.out Hne.out)
     clear g1 g2 g3
     generalize ((((ww4.setCell ⟨bv,0,none⟩ (i64 (x % 4))).setCell ⟨bv,1,none⟩ (i64 (x / 4 % 2))).setCell ⟨bv,2,none⟩ (i64 (x / 8 % 8192))).setCell ⟨bv,3,none⟩ (i64 (x / 65536 % 16777216))).setCell ⟨bv,4,none⟩ (i64 (x / 1099511627776)) = wy at HG Hv Hw ⊢
     replace HA:=zIn (HA0.out.gr HG.out)
     refine hK.out _ _ HA.out (fun _=>?_)
     (try simp only [Act.put,qset])
     clear hK K
     refine runT rfl (fun K hK=>?_)
     have q0:=Hw.out.at' 0 _ rfl
     have q1:=Hw.out.at' 1 _ rfl
     have q2:=Hw.out.at' 2 _ rfl
     have q3:=Hw.out.at' 3 _ rfl
     have q4:=Hw.out.at' 4 _ rfl
     have f0:=Hw.out.fz 0
     have f1:=Hw.out.fz 1
     have f2:=Hw.out.fz 2
     have f3:=Hw.out.fz 3
     have f4:=Hw.out.fz 4
     go_simp
     clear q0 q1 q2 q3 q4 f0 f1 f2 f3 f4
     obtain ⟨g1,g2,g3⟩:=set5 HG.out Hw.out Hsw.out (i64 (y % 4)) (i64 (y / 4 % 2)) (i64 (y / 8 % 8192)) (i64 (y / 65536 % 16777216)) (i64 (y / 1099511627776))
     replace HG:=zIn g1
     replace Hw:=zIn g2
     replace Hv:=zIn (g3 _ _ Hv.out (fun e=>Hne.out e.symm))
     clear g1 g2 g3
     generalize ((((wy.setCell ⟨bw,0,none⟩ (i64 (y % 4))).setCell ⟨bw,1,none⟩ (i64 (y / 4 % 2))).setCell ⟨bw,2,none⟩ (i64 (y / 8 % 8192))).setCell ⟨bw,3,none⟩ (i64 (y / 65536 % 16777216))).setCell ⟨bw,4,none⟩ (i64 (y / 1099511627776)) = wz at HG Hv Hw ⊢
     replace HA:=zIn (HA0.out.gr HG.out)
     refine hK.out _ _ HA.out (fun _=>?_)
     (try simp only [Act.put,qset])
     clear hK K
     refine zAN ?_
     go_wp2_with fail
     go_meet
     exact ⟨bv,bw,rfl,rfl,Hv,Hw,HG⟩
    ·refine runT rfl (fun K hK=>?_)
     go_simp
     have hb:=(Gr.refl ww2).new (.cells #[i64 0,i64 0,i64 0,i64 0,i64 0] 122)
     have Hw : Hid (IsObj (ww2.alloc (.cells #[i64 0,i64 0,i64 0,i64 0,i64 0] 122)) ww2.heap.size [i64 0,i64 0,i64 0,i64 0,i64 0]):=IsObj.made ww2 [i64 0,i64 0,i64 0,i64 0,i64 0] 122
     have Hsw : Hid (W.heap.size ≤ ww2.heap.size):=HG.out.below.size
     replace HA:=zIn (HA.out.gr hb)
     replace HG:=zIn (HG.out.step hb)
     clear hb
     generalize ww2.alloc (.cells #[i64 0,i64 0,i64 0,i64 0,i64 0] 122) = ww3 at HA HG Hw ⊢
     generalize ww2.heap.size = bw at Hw Hsw ⊢
     refine hK.out _ _ HA.out (fun _=>?_)
     (try simp only [Act.put,qset])
     clear hK K
     try clear ww2
     refine runT rfl (fun K hK=>?_)
     go_simp
     have hb:=(Gr.refl ww3).new (.cells #[i64 0,i64 0,i64 0,i64 0,i64 0] 122)
     have Hv : Hid (IsObj (ww3.alloc (.cells #[i64 0,i64 0,i64 0,i64 0,i64 0] 122)) ww3.heap.size [i64 0,i64 0,i64 0,i64 0,i64 0]):=IsObj.made ww3 [i64 0,i64 0,i64 0,i64 0,i64 0] 122
     have Hne : Hid (ww3.heap.size ≠ bw):=by have:=Hw.out.lt; show _ ≠ _; omega
     replace Hw:=zIn (Hw.out.later hb.below)
     have Hsv : Hid (W.heap.size ≤ ww3.heap.size):=HG.out.below.size
     replace HA:=zIn (HA.out.gr hb)
     replace HG:=zIn (HG.out.step hb)
     clear hb
     generalize ww3.alloc (.cells #[i64 0,i64 0,i64 0,i64 0,i64 0] 122) = ww4 at HA HG Hv Hw ⊢
     generalize ww3.heap.size = bv at Hv Hsv Hne ⊢
     refine hK.out _ _ HA.out (fun _=>?_)
     (try simp only [Act.put,qset])
     clear hK K
     try clear ww3
     refine runT rfl (fun K hK=>?_)
     have q0:=Hv.out.at' 0 _ rfl
     have q1:=Hv.out.at' 1 _ rfl
     have q2:=Hv.out.at' 2 _ rfl
     have q3:=Hv.out.at' 3 _ rfl
     have q4:=Hv.out.at' 4 _ rfl
     have f0:=Hv.out.fz 0
     have f1:=Hv.out.fz 1
     have f2:=Hv.out.fz 2
     have f3:=Hv.out.fz 3
     have f4:=Hv.out.fz 4
     go_simp
     clear q0 q1 q2 q3 q4 f0 f1 f2 f3 f4
     obtain ⟨g1,g2,g3⟩:=set5 HG.out Hv.out Hsv.out (i64 (x % 4)) (i64 (x / 4 % 2)) (i64 (x / 8 % 8192)) (i64 (x / 65536 % 16777216)) (i64 (x / 1099511627776))
     replace HG:=zIn g1
     replace Hv:=zIn g2
     replace Hw:=zIn (g3 _ _ Hw.out Hne.out)
     clear g1 g2 g3
     generalize ((((ww4.setCell ⟨bv,0,none⟩ (i64 (x % 4))).setCell ⟨bv,1,none⟩ (i64 (x / 4 % 2))).setCell ⟨bv,2,none⟩ (i64 (x / 8 % 8192))).setCell ⟨bv,3,none⟩ (i64 (x / 65536 % 16777216))).setCell ⟨bv,4,none⟩ (i64 (x / 1099511627776)) = wy at HG Hv Hw ⊢
     replace HA:=zIn (HA0.out.gr HG.out)
     refine hK.out _ _ HA.out (fun _=>?_)
     (try simp only [Act.put,qset])
     clear hK K
     refine runT rfl (fun K hK=>?_)
     have q0:=Hw.out.at' 0 _ rfl
     have q1:=Hw.out.at' 1 _ rfl
     have q2:=Hw.out.at' 2 _ rfl
     have q3:=Hw.out.at' 3 _ rfl
     have q4:=Hw.out.at' 4 _ rfl
     have f0:=Hw.out.fz 0
     have f1:=Hw.out.fz 1
     have f2:=Hw.out.fz 2
     have f3:=Hw.out.fz 3
     have f4:=Hw.out.fz 4
     go_simp
     clear q0 q1 q2 q3 q4 f0 f1 f2 f3 f4
     obtain ⟨g1,g2,g3⟩:=set5 HG.out Hw.out Hsw.out (i64 (y % 4)) (i64 (y / 4 % 2)) (i64 (y / 8 % 8192)) (i64 (y / 65536 % 16777216)) (i64 (y / 1099511627776))
     replace HG:=zIn g1
     replace Hw:=zIn g2
     replace Hv:=zIn (g3 _ _ Hv.out (fun e=>Hne.out e.symm))
     clear g1 g2 g3
     generalize ((((wy.setCell ⟨bw,0,none⟩ (i64 (y % 4))).setCell ⟨bw,1,none⟩ (i64 (y / 4 % 2))).setCell ⟨bw,2,none⟩ (i64 (y / 8 % 8192))).setCell ⟨bw,3,none⟩ (i64 (y / 65536 % 16777216))).setCell ⟨bw,4,none⟩ (i64 (y / 1099511627776)) = wz at HG Hv Hw ⊢
     replace HA:=zIn (HA0.out.gr HG.out)
     refine hK.out _ _ HA.out (fun _=>?_)
     (try simp only [Act.put,qset])
     clear hK K
     refine zAN ?_
     go_wp2_with fail
     go_meet
     exact ⟨bv,bw,rfl,rfl,Hv,Hw,HG⟩
   ·refine runT rfl (fun K hK=>?_)
    go_simp
    have hb:=(Gr.refl ww1).new (.cells #[i64 0,i64 0,i64 0,i64 0,i64 0] 122)
    have Hv : Hid (IsObj (ww1.alloc (.cells #[i64 0,i64 0,i64 0,i64 0,i64 0] 122)) ww1.heap.size [i64 0,i64 0,i64 0,i64 0,i64 0]):=IsObj.made ww1 [i64 0,i64 0,i64 0,i64 0,i64 0] 122
    have Hsv : Hid (W.heap.size ≤ ww1.heap.size):=HG.out.below.size
    replace HA:=zIn (HA.out.gr hb)
    replace HG:=zIn (HG.out.step hb)
    clear hb
    generalize ww1.alloc (.cells #[i64 0,i64 0,i64 0,i64 0,i64 0] 122) = ww2 at HA HG Hv ⊢
    generalize ww1.heap.size = bv at Hv Hsv ⊢
    refine hK.out _ _ HA.out (fun _=>?_)
    (try simp only [Act.put,qset])
    clear hK K
    try clear ww1
    refine ⟨?_, ?_⟩
    ·refine runT rfl (fun K hK=>?_)
     go_simp
     go_at_call 64
     refine (zAP y _ y0 y1).mono ?_
     rintro r ww3 ⟨rfl,hb⟩
     (try go_wp2_with fail)
     replace Hv:=zIn (Hv.out.later hb.below)
     replace HA:=zIn (HA.out.gr hb)
     replace HG:=zIn (HG.out.step hb)
     clear hb
     refine hK.out _ _ HA.out (fun _=>?_)
     (try simp only [Act.put,qset])
     clear hK K
     try clear ww2
     refine runT rfl (fun K hK=>?_)
     go_simp
     have hb:=(Gr.refl ww3).new (.cells #[i64 0,i64 0,i64 0,i64 0,i64 0] 122)
     have Hw : Hid (IsObj (ww3.alloc (.cells #[i64 0,i64 0,i64 0,i64 0,i64 0] 122)) ww3.heap.size [i64 0,i64 0,i64 0,i64 0,i64 0]):=IsObj.made ww3 [i64 0,i64 0,i64 0,i64 0,i64 0] 122
     have Hne : Hid (bv ≠ ww3.heap.size):=by have:=Hv.out.lt; show _ ≠ _; omega
     replace Hv:=zIn (Hv.out.later hb.below)
     have Hsw : Hid (W.heap.size ≤ ww3.heap.size):=HG.out.below.size
     replace HA:=zIn (HA.out.gr hb)
     replace HG:=zIn (HG.out.step hb)
     clear hb
     generalize ww3.alloc (.cells #[i64 0,i64 0,i64 0,i64 0,i64 0] 122) = ww4 at HA HG Hw Hv ⊢
     generalize ww3.heap.size = bw at Hw Hsw Hne ⊢
     refine hK.out _ _ HA.out (fun _=>?_)
     (try simp only [Act.put,qset])
     clear hK K
     try clear ww3
     refine runT rfl (fun K hK=>?_)
     have q0:=Hv.out.at' 0 _ rfl
     have q1:=Hv.out.at' 1 _ rfl
     have q2:=Hv.out.at' 2 _ rfl
     have q3:=Hv.out.at' 3 _ rfl
     have q4:=Hv.out.at' 4 _ rfl
     have f0:=Hv.out.fz 0
     have f1:=Hv.out.fz 1
     have f2:=Hv.out.fz 2
     have f3:=Hv.out.fz 3
     have f4:=Hv.out.fz 4
     go_simp
     clear q0 q1 q2 q3 q4 f0 f1 f2 f3 f4
     obtain ⟨g1,g2,g3⟩:=set5 HG.out Hv.out Hsv.out (i64 (x % 4)) (i64 (x / 4 % 2)) (i64 (x / 8 % 8192)) (i64 (x / 65536 % 16777216)) (i64 (x / 1099511627776))
     replace HG:=zIn g1
     replace Hv:=zIn g2
     replace Hw:=zIn (g3 _ _ Hw.out Hne.out)
     clear g1 g2 g3
     generalize ((((ww4.setCell ⟨bv,0,none⟩ (i64 (x % 4))).setCell ⟨bv,1,none⟩ (i64 (x / 4 % 2))).setCell ⟨bv,2,none⟩ (i64 (x / 8 % 8192))).setCell ⟨bv,3,none⟩ (i64 (x / 65536 % 16777216))).setCell ⟨bv,4,none⟩ (i64 (x / 1099511627776)) = wy at HG Hv Hw ⊢
     replace HA:=zIn (HA0.out.gr HG.out)
     refine hK.out _ _ HA.out (fun _=>?_)
     (try simp only [Act.put,qset])
     clear hK K
     refine runT rfl (fun K hK=>?_)
     have q0:=Hw.out.at' 0 _ rfl
     have q1:=Hw.out.at' 1 _ rfl
     have q2:=Hw.out.at' 2 _ rfl
     have q3:=Hw.out.at' 3 _ rfl
     have q4:=Hw.out.at' 4 _ rfl
     have f0:=Hw.out.fz 0
     have f1:=Hw.out.fz 1
     have f2:=Hw.out.fz 2
     have f3:=Hw.out.fz 3
     have f4:=Hw.out.fz 4
     go_simp
     clear q0 q1 q2 q3 q4 f0 f1 f2 f3 f4
     obtain ⟨g1,g2,g3⟩:=set5 HG.out Hw.out Hsw.out (i64 (y % 4)) (i64 (y / 4 % 2)) (i64 (y / 8 % 8192)) (i64 (y / 65536 % 16777216)) (i64 (y / 1099511627776))
     replace HG:=zIn g1
     replace Hw:=zIn g2
     replace Hv:=zIn (g3 _ _ Hv.out (fun e=>Hne.out e.symm))
     clear g1 g2 g3
     generalize ((((wy.setCell ⟨bw,0,none⟩ (i64 (y % 4))).setCell ⟨bw,1,none⟩ (i64 (y / 4 % 2))).setCell ⟨bw,2,none⟩ (i64 (y / 8 % 8192))).setCell ⟨bw,3,none⟩ (i64 (y / 65536 % 16777216))).setCell ⟨bw,4,none⟩ (i64 (y / 1099511627776)) = wz at HG Hv Hw ⊢
     replace HA:=zIn (HA0.out.gr HG.out)
     refine hK.out _ _ HA.out (fun _=>?_)
     (try simp only [Act.put,qset])
     clear hK K
     refine zAN ?_
     go_wp2_with fail
     go_meet
     exact ⟨bv,bw,rfl,rfl,Hv,Hw,HG⟩
    ·refine runT rfl (fun K hK=>?_)
     go_simp
     have hb:=(Gr.refl ww2).new (.cells #[i64 0,i64 0,i64 0,i64 0,i64 0] 122)
     have Hw : Hid (IsObj (ww2.alloc (.cells #[i64 0,i64 0,i64 0,i64 0,i64 0] 122)) ww2.heap.size [i64 0,i64 0,i64 0,i64 0,i64 0]):=IsObj.made ww2 [i64 0,i64 0,i64 0,i64 0,i64 0] 122
     have Hne : Hid (bv ≠ ww2.heap.size):=by have:=Hv.out.lt; show _ ≠ _; omega
     replace Hv:=zIn (Hv.out.later hb.below)
     have Hsw : Hid (W.heap.size ≤ ww2.heap.size):=HG.out.below.size
     replace HA:=zIn (HA.out.gr hb)
     replace HG:=zIn (HG.out.step hb)
     clear hb
     generalize ww2.alloc (.cells #[i64 0,i64 0,i64 0,i64 0,i64 0] 122) = ww3 at HA HG Hw Hv ⊢
     generalize ww2.heap.size = bw at Hw Hsw Hne ⊢
     refine hK.out _ _ HA.out (fun _=>?_)
     (try simp only [Act.put,qset])
     clear hK K
     try clear ww2
     refine runT rfl (fun K hK=>?_)
     go_simp
     go_at_call 64
     refine (zAP y _ y0 y1).mono ?_
     rintro r ww4 ⟨rfl,hb⟩
     (try go_wp2_with fail)
     replace Hv:=zIn (Hv.out.later hb.below)
     replace Hw:=zIn (Hw.out.later hb.below)
     replace HA:=zIn (HA.out.gr hb)
     replace HG:=zIn (HG.out.step hb)
     clear hb
     refine hK.out _ _ HA.out (fun _=>?_)
     (try simp only [Act.put,qset])
     clear hK K
     try clear ww3
     refine runT rfl (fun K hK=>?_)
     have q0:=Hv.out.at' 0 _ rfl
     have q1:=Hv.out.at' 1 _ rfl
     have q2:=Hv.out.at' 2 _ rfl
     have q3:=Hv.out.at' 3 _ rfl
     have q4:=Hv.out.at' 4 _ rfl
     have f0:=Hv.out.fz 0
     have f1:=Hv.out.fz 1
     have f2:=Hv.out.fz 2
     have f3:=Hv.out.fz 3
     have f4:=Hv.out.fz 4
     go_simp
     clear q0 q1 q2 q3 q4 f0 f1 f2 f3 f4
     obtain ⟨g1,g2,g3⟩:=set5 HG.out Hv.out Hsv.out (i64 (x % 4)) (i64 (x / 4 % 2)) (i64 (x / 8 % 8192)) (i64 (x / 65536 % 16777216)) (i64 (x / 1099511627776))
     replace HG:=zIn g1
     replace Hv:=zIn g2
     replace Hw:=zIn (g3 _ _ Hw.out Hne.out)
     clear g1 g2 g3
     generalize ((((ww4.setCell ⟨bv,0,none⟩ (i64 (x % 4))).setCell ⟨bv,1,none⟩ (i64 (x / 4 % 2))).setCell ⟨bv,2,none⟩ (i64 (x / 8 % 8192))).setCell ⟨bv,3,none⟩ (i64 (x / 65536 % 16777216))).setCell ⟨bv,4,none⟩ (i64 (x / 1099511627776)) = wy at HG Hv Hw ⊢
     replace HA:=zIn (HA0.out.gr HG.out)
     refine hK.out _ _ HA.out (fun _=>?_)
     (try simp only [Act.put,qset])
     clear hK K
     refine runT rfl (fun K hK=>?_)
     have q0:=Hw.out.at' 0 _ rfl
     have q1:=Hw.out.at' 1 _ rfl
     have q2:=Hw.out.at' 2 _ rfl
     have q3:=Hw.out.at' 3 _ rfl
     have q4:=Hw.out.at' 4 _ rfl
     have f0:=Hw.out.fz 0
     have f1:=Hw.out.fz 1
     have f2:=Hw.out.fz 2
     have f3:=Hw.out.fz 3
     have f4:=Hw.out.fz 4
     go_simp
     clear q0 q1 q2 q3 q4 f0 f1 f2 f3 f4
     obtain ⟨g1,g2,g3⟩:=set5 HG.out Hw.out Hsw.out (i64 (y % 4)) (i64 (y / 4 % 2)) (i64 (y / 8 % 8192)) (i64 (y / 65536 % 16777216)) (i64 (y / 1099511627776))
     replace HG:=zIn g1
     replace Hw:=zIn g2
     replace Hv:=zIn (g3 _ _ Hv.out (fun e=>Hne.out e.symm))
     clear g1 g2 g3
     generalize ((((wy.setCell ⟨bw,0,none⟩ (i64 (y % 4))).setCell ⟨bw,1,none⟩ (i64 (y / 4 % 2))).setCell ⟨bw,2,none⟩ (i64 (y / 8 % 8192))).setCell ⟨bw,3,none⟩ (i64 (y / 65536 % 16777216))).setCell ⟨bw,4,none⟩ (i64 (y / 1099511627776)) = wz at HG Hv Hw ⊢
     replace HA:=zIn (HA0.out.gr HG.out)
     refine hK.out _ _ HA.out (fun _=>?_)
     (try simp only [Act.put,qset])
     clear hK K
     refine zAN ?_
     go_wp2_with fail
     go_meet
     exact ⟨bv,bw,rfl,rfl,Hv,Hw,HG⟩
   ·refine runT rfl (fun K hK=>?_)
    go_simp
    have hb:=(Gr.refl ww1).new (.cells #[i64 0,i64 0,i64 0,i64 0,i64 0] 122)
    have Hw : Hid (IsObj (ww1.alloc (.cells #[i64 0,i64 0,i64 0,i64 0,i64 0] 122)) ww1.heap.size [i64 0,i64 0,i64 0,i64 0,i64 0]):=IsObj.made ww1 [i64 0,i64 0,i64 0,i64 0,i64 0] 122
    have Hsw : Hid (W.heap.size ≤ ww1.heap.size):=HG.out.below.size
    replace HA:=zIn (HA.out.gr hb)
    replace HG:=zIn (HG.out.step hb)
    clear hb
    generalize ww1.alloc (.cells #[i64 0,i64 0,i64 0,i64 0,i64 0] 122) = ww2 at HA HG Hw ⊢
    generalize ww1.heap.size = bw at Hw Hsw ⊢
    refine hK.out _ _ HA.out (fun _=>?_)
    (try simp only [Act.put,qset])
    clear hK K
    try clear ww1
    refine ⟨?_, ?_⟩
    ·refine runT rfl (fun K hK=>?_)
     go_simp
     go_at_call 64
     refine (zAP y _ y0 y1).mono ?_
     rintro r ww3 ⟨rfl,hb⟩
     (try go_wp2_with fail)
     replace Hw:=zIn (Hw.out.later hb.below)
     replace HA:=zIn (HA.out.gr hb)
     replace HG:=zIn (HG.out.step hb)
     clear hb
     refine hK.out _ _ HA.out (fun _=>?_)
     (try simp only [Act.put,qset])
     clear hK K
     try clear ww2
     refine runT rfl (fun K hK=>?_)
     go_simp
     have hb:=(Gr.refl ww3).new (.cells #[i64 0,i64 0,i64 0,i64 0,i64 0] 122)
     have Hv : Hid (IsObj (ww3.alloc (.cells #[i64 0,i64 0,i64 0,i64 0,i64 0] 122)) ww3.heap.size [i64 0,i64 0,i64 0,i64 0,i64 0]):=IsObj.made ww3 [i64 0,i64 0,i64 0,i64 0,i64 0] 122
     have Hne : Hid (ww3.heap.size ≠ bw):=by have:=Hw.out.lt; show _ ≠ _; omega
     replace Hw:=zIn (Hw.out.later hb.below)
     have Hsv : Hid (W.heap.size ≤ ww3.heap.size):=HG.out.below.size
     replace HA:=zIn (HA.out.gr hb)
     replace HG:=zIn (HG.out.step hb)
     clear hb
     generalize ww3.alloc (.cells #[i64 0,i64 0,i64 0,i64 0,i64 0] 122) = ww4 at HA HG Hv Hw ⊢
     generalize ww3.heap.size = bv at Hv Hsv Hne ⊢
     refine hK.out _ _ HA.out (fun _=>?_)
     (try simp only [Act.put,qset])
     clear hK K
     try clear ww3
     refine runT rfl (fun K hK=>?_)
     have q0:=Hv.out.at' 0 _ rfl
     have q1:=Hv.out.at' 1 _ rfl
     have q2:=Hv.out.at' 2 _ rfl
     have q3:=Hv.out.at' 3 _ rfl
     have q4:=Hv.out.at' 4 _ rfl
     have f0:=Hv.out.fz 0
     have f1:=Hv.out.fz 1
     have f2:=Hv.out.fz 2
     have f3:=Hv.out.fz 3
     have f4:=Hv.out.fz 4
     go_simp
     clear q0 q1 q2 q3 q4 f0 f1 f2 f3 f4
     obtain ⟨g1,g2,g3⟩:=set5 HG.out Hv.out Hsv.out (i64 (x % 4)) (i64 (x / 4 % 2)) (i64 (x / 8 % 8192)) (i64 (x / 65536 % 16777216)) (i64 (x / 1099511627776))
     replace HG:=zIn g1
     replace Hv:=zIn g2
     replace Hw:=zIn (g3 _ _ Hw.out Hne.out)
     clear g1 g2 g3
     generalize ((((ww4.setCell ⟨bv,0,none⟩ (i64 (x % 4))).setCell ⟨bv,1,none⟩ (i64 (x / 4 % 2))).setCell ⟨bv,2,none⟩ (i64 (x / 8 % 8192))).setCell ⟨bv,3,none⟩ (i64 (x / 65536 % 16777216))).setCell ⟨bv,4,none⟩ (i64 (x / 1099511627776)) = wy at HG Hv Hw ⊢
     replace HA:=zIn (HA0.out.gr HG.out)
     refine hK.out _ _ HA.out (fun _=>?_)
     (try simp only [Act.put,qset])
     clear hK K
     refine runT rfl (fun K hK=>?_)
     have q0:=Hw.out.at' 0 _ rfl
     have q1:=Hw.out.at' 1 _ rfl
     have q2:=Hw.out.at' 2 _ rfl
     have q3:=Hw.out.at' 3 _ rfl
     have q4:=Hw.out.at' 4 _ rfl
     have f0:=Hw.out.fz 0
     have f1:=Hw.out.fz 1
     have f2:=Hw.out.fz 2
     have f3:=Hw.out.fz 3
     have f4:=Hw.out.fz 4
     go_simp
     clear q0 q1 q2 q3 q4 f0 f1 f2 f3 f4
     obtain ⟨g1,g2,g3⟩:=set5 HG.out Hw.out Hsw.out (i64 (y % 4)) (i64 (y / 4 % 2)) (i64 (y / 8 % 8192)) (i64 (y / 65536 % 16777216)) (i64 (y / 1099511627776))
     replace HG:=zIn g1
     replace Hw:=zIn g2
     replace Hv:=zIn (g3 _ _ Hv.out (fun e=>Hne.out e.symm))
     clear g1 g2 g3
     generalize ((((wy.setCell ⟨bw,0,none⟩ (i64 (y % 4))).setCell ⟨bw,1,none⟩ (i64 (y / 4 % 2))).setCell ⟨bw,2,none⟩ (i64 (y / 8 % 8192))).setCell ⟨bw,3,none⟩ (i64 (y / 65536 % 16777216))).setCell ⟨bw,4,none⟩ (i64 (y / 1099511627776)) = wz at HG Hv Hw ⊢
     replace HA:=zIn (HA0.out.gr HG.out)
     refine hK.out _ _ HA.out (fun _=>?_)
     (try simp only [Act.put,qset])
     clear hK K
     refine zAN ?_
     go_wp2_with fail
     go_meet
     exact ⟨bv,bw,rfl,rfl,Hv,Hw,HG⟩
    ·refine runT rfl (fun K hK=>?_)
     go_simp
     have hb:=(Gr.refl ww2).new (.cells #[i64 0,i64 0,i64 0,i64 0,i64 0] 122)
     have Hv : Hid (IsObj (ww2.alloc (.cells #[i64 0,i64 0,i64 0,i64 0,i64 0] 122)) ww2.heap.size [i64 0,i64 0,i64 0,i64 0,i64 0]):=IsObj.made ww2 [i64 0,i64 0,i64 0,i64 0,i64 0] 122
     have Hne : Hid (ww2.heap.size ≠ bw):=by have:=Hw.out.lt; show _ ≠ _; omega
     replace Hw:=zIn (Hw.out.later hb.below)
     have Hsv : Hid (W.heap.size ≤ ww2.heap.size):=HG.out.below.size
     replace HA:=zIn (HA.out.gr hb)
     replace HG:=zIn (HG.out.step hb)
     clear hb
     generalize ww2.alloc (.cells #[i64 0,i64 0,i64 0,i64 0,i64 0] 122) = ww3 at HA HG Hv Hw ⊢
     generalize ww2.heap.size = bv at Hv Hsv Hne ⊢
     refine hK.out _ _ HA.out (fun _=>?_)
     (try simp only [Act.put,qset])
     clear hK K
     try clear ww2
     refine runT rfl (fun K hK=>?_)
     go_simp
     go_at_call 64
     refine (zAP y _ y0 y1).mono ?_
     rintro r ww4 ⟨rfl,hb⟩
     (try go_wp2_with fail)
     replace Hv:=zIn (Hv.out.later hb.below)
     replace Hw:=zIn (Hw.out.later hb.below)
     replace HA:=zIn (HA.out.gr hb)
     replace HG:=zIn (HG.out.step hb)
     clear hb
     refine hK.out _ _ HA.out (fun _=>?_)
     (try simp only [Act.put,qset])
     clear hK K
     try clear ww3
     refine runT rfl (fun K hK=>?_)
     have q0:=Hv.out.at' 0 _ rfl
     have q1:=Hv.out.at' 1 _ rfl
     have q2:=Hv.out.at' 2 _ rfl
     have q3:=Hv.out.at' 3 _ rfl
     have q4:=Hv.out.at' 4 _ rfl
     have f0:=Hv.out.fz 0
     have f1:=Hv.out.fz 1
     have f2:=Hv.out.fz 2
     have f3:=Hv.out.fz 3
     have f4:=Hv.out.fz 4
     go_simp
     clear q0 q1 q2 q3 q4 f0 f1 f2 f3 f4
     obtain ⟨g1,g2,g3⟩:=set5 HG.out Hv.out Hsv.out (i64 (x % 4)) (i64 (x / 4 % 2)) (i64 (x / 8 % 8192)) (i64 (x / 65536 % 16777216)) (i64 (x / 1099511627776))
     replace HG:=zIn g1
     replace Hv:=zIn g2
     replace Hw:=zIn (g3 _ _ Hw.out Hne.out)
     clear g1 g2 g3
     generalize ((((ww4.setCell ⟨bv,0,none⟩ (i64 (x % 4))).setCell ⟨bv,1,none⟩ (i64 (x / 4 % 2))).setCell ⟨bv,2,none⟩ (i64 (x / 8 % 8192))).setCell ⟨bv,3,none⟩ (i64 (x / 65536 % 16777216))).setCell ⟨bv,4,none⟩ (i64 (x / 1099511627776)) = wy at HG Hv Hw ⊢
     replace HA:=zIn (HA0.out.gr HG.out)
     refine hK.out _ _ HA.out (fun _=>?_)
     (try simp only [Act.put,qset])
     clear hK K
     refine runT rfl (fun K hK=>?_)
     have q0:=Hw.out.at' 0 _ rfl
     have q1:=Hw.out.at' 1 _ rfl
     have q2:=Hw.out.at' 2 _ rfl
     have q3:=Hw.out.at' 3 _ rfl
     have q4:=Hw.out.at' 4 _ rfl
     have f0:=Hw.out.fz 0
     have f1:=Hw.out.fz 1
     have f2:=Hw.out.fz 2
     have f3:=Hw.out.fz 3
     have f4:=Hw.out.fz 4
     go_simp
     clear q0 q1 q2 q3 q4 f0 f1 f2 f3 f4
     obtain ⟨g1,g2,g3⟩:=set5 HG.out Hw.out Hsw.out (i64 (y % 4)) (i64 (y / 4 % 2)) (i64 (y / 8 % 8192)) (i64 (y / 65536 % 16777216)) (i64 (y / 1099511627776))
     replace HG:=zIn g1
     replace Hw:=zIn g2
     replace Hv:=zIn (g3 _ _ Hv.out (fun e=>Hne.out e.symm))
     clear g1 g2 g3
     generalize ((((wy.setCell ⟨bw,0,none⟩ (i64 (y % 4))).setCell ⟨bw,1,none⟩ (i64 (y / 4 % 2))).setCell ⟨bw,2,none⟩ (i64 (y / 8 % 8192))).setCell ⟨bw,3,none⟩ (i64 (y / 65536 % 16777216))).setCell ⟨bw,4,none⟩ (i64 (y / 1099511627776)) = wz at HG Hv Hw ⊢
     replace HA:=zIn (HA0.out.gr HG.out)
     refine hK.out _ _ HA.out (fun _=>?_)
     (try simp only [Act.put,qset])
     clear hK K
     refine zAN ?_
     go_wp2_with fail
     go_meet
     exact ⟨bv,bw,rfl,rfl,Hv,Hw,HG⟩
  ·refine runT rfl (fun K hK=>?_)
   go_simp
   have hb:=(Gr.refl ww0).new (.cells #[i64 0,i64 0,i64 0,i64 0,i64 0] 122)
   have Hv : Hid (IsObj (ww0.alloc (.cells #[i64 0,i64 0,i64 0,i64 0,i64 0] 122)) ww0.heap.size [i64 0,i64 0,i64 0,i64 0,i64 0]):=IsObj.made ww0 [i64 0,i64 0,i64 0,i64 0,i64 0] 122
   have Hsv : Hid (W.heap.size ≤ ww0.heap.size):=HG.out.below.size
   replace HA:=zIn (HA.out.gr hb)
   replace HG:=zIn (HG.out.step hb)
   clear hb
   generalize ww0.alloc (.cells #[i64 0,i64 0,i64 0,i64 0,i64 0] 122) = ww1 at HA HG Hv ⊢
   generalize ww0.heap.size = bv at Hv Hsv ⊢
   refine hK.out _ _ HA.out (fun _=>?_)
   (try simp only [Act.put,qset])
   clear hK K
   try clear ww0
   refine ⟨?_, ?_⟩
   ·refine runT rfl (fun K hK=>?_)
    go_simp
    go_at_call 64
    refine (zAP x _ x0 x1).mono ?_
    rintro r ww2 ⟨rfl,hb⟩
    (try go_wp2_with fail)
    replace Hv:=zIn (Hv.out.later hb.below)
    replace HA:=zIn (HA.out.gr hb)
    replace HG:=zIn (HG.out.step hb)
    clear hb
    refine hK.out _ _ HA.out (fun _=>?_)
    (try simp only [Act.put,qset])
    clear hK K
    try clear ww1
    refine ⟨?_, ?_⟩
    ·refine runT rfl (fun K hK=>?_)
     go_simp
     go_at_call 64
     refine (zAP y _ y0 y1).mono ?_
     rintro r ww3 ⟨rfl,hb⟩
     (try go_wp2_with fail)
     replace Hv:=zIn (Hv.out.later hb.below)
     replace HA:=zIn (HA.out.gr hb)
     replace HG:=zIn (HG.out.step hb)
     clear hb
     refine hK.out _ _ HA.out (fun _=>?_)
     (try simp only [Act.put,qset])
     clear hK K
     try clear ww2
     refine runT rfl (fun K hK=>?_)
     go_simp
     have hb:=(Gr.refl ww3).new (.cells #[i64 0,i64 0,i64 0,i64 0,i64 0] 122)
     have Hw : Hid (IsObj (ww3.alloc (.cells #[i64 0,i64 0,i64 0,i64 0,i64 0] 122)) ww3.heap.size [i64 0,i64 0,i64 0,i64 0,i64 0]):=IsObj.made ww3 [i64 0,i64 0,i64 0,i64 0,i64 0] 122
     have Hne : Hid (bv ≠ ww3.heap.size):=by have:=Hv.out.lt; show _ ≠ _; omega
     replace Hv:=zIn (Hv.out.later hb.below)
     have Hsw : Hid (W.heap.size ≤ ww3.heap.size):=HG.out.below.size
     replace HA:=zIn (HA.out.gr hb)
     replace HG:=zIn (HG.out.step hb)
     clear hb
     generalize ww3.alloc (.cells #[i64 0,i64 0,i64 0,i64 0,i64 0] 122) = ww4 at HA HG Hw Hv ⊢
     generalize ww3.heap.size = bw at Hw Hsw Hne ⊢
     refine hK.out _ _ HA.out (fun _=>?_)
     (try simp only [Act.put,qset])
     clear hK K
     try clear ww3
     refine runT rfl (fun K hK=>?_)
     have q0:=Hv.out.at' 0 _ rfl
     have q1:=Hv.out.at' 1 _ rfl
     have q2:=Hv.out.at' 2 _ rfl
     have q3:=Hv.out.at' 3 _ rfl
     have q4:=Hv.out.at' 4 _ rfl
     have f0:=Hv.out.fz 0
     have f1:=Hv.out.fz 1
     have f2:=Hv.out.fz 2
     have f3:=Hv.out.fz 3
     have f4:=Hv.out.fz 4
     go_simp
     clear q0 q1 q2 q3 q4 f0 f1 f2 f3 f4
     obtain ⟨g1,g2,g3⟩:=set5 HG.out Hv.out Hsv.out (i64 (x % 4)) (i64 (x / 4 % 2)) (i64 (x / 8 % 8192)) (i64 (x / 65536 % 16777216)) (i64 (x / 1099511627776))
     replace HG:=zIn g1
     replace Hv:=zIn g2
     replace Hw:=zIn (g3 _ _ Hw.out Hne.out)
     clear g1 g2 g3
     generalize ((((ww4.setCell ⟨bv,0,none⟩ (i64 (x % 4))).setCell ⟨bv,1,none⟩ (i64 (x / 4 % 2))).setCell ⟨bv,2,none⟩ (i64 (x / 8 % 8192))).setCell ⟨bv,3,none⟩ (i64 (x / 65536 % 16777216))).setCell ⟨bv,4,none⟩ (i64 (x / 1099511627776)) = wy at HG Hv Hw ⊢
     replace HA:=zIn (HA0.out.gr HG.out)
     refine hK.out _ _ HA.out (fun _=>?_)
     (try simp only [Act.put,qset])
     clear hK K
     refine runT rfl (fun K hK=>?_)
     have q0:=Hw.out.at' 0 _ rfl
     have q1:=Hw.out.at' 1 _ rfl
     have q2:=Hw.out.at' 2 _ rfl
     have q3:=Hw.out.at' 3 _ rfl
     have q4:=Hw.out.at' 4 _ rfl
     have f0:=Hw.out.fz 0
     have f1:=Hw.out.fz 1
     have f2:=Hw.out.fz 2
     have f3:=Hw.out.fz 3
     have f4:=Hw.out.fz 4
     go_simp
     clear q0 q1 q2 q3 q4 f0 f1 f2 f3 f4
     obtain ⟨g1,g2,g3⟩:=set5 HG.out Hw.out Hsw.out (i64 (y % 4)) (i64 (y / 4 % 2)) (i64 (y / 8 % 8192)) (i64 (y / 65536 % 16777216)) (i64 (y / 1099511627776))
     replace HG:=zIn g1
     replace Hw:=zIn g2
     replace Hv:=zIn (g3 _ _ Hv.out (fun e=>Hne.out e.symm))
     clear g1 g2 g3
     generalize ((((wy.setCell ⟨bw,0,none⟩ (i64 (y % 4))).setCell ⟨bw,1,none⟩ (i64 (y / 4 % 2))).setCell ⟨bw,2,none⟩ (i64 (y / 8 % 8192))).setCell ⟨bw,3,none⟩ (i64 (y / 65536 % 16777216))).setCell ⟨bw,4,none⟩ (i64 (y / 1099511627776)) = wz at HG Hv Hw ⊢
     replace HA:=zIn (HA0.out.gr HG.out)
     refine hK.out _ _ HA.out (fun _=>?_)
     (try simp only [Act.put,qset])
     clear hK K
     refine zAN ?_
     go_wp2_with fail
     go_meet
     exact ⟨bv,bw,rfl,rfl,Hv,Hw,HG⟩
    ·refine runT rfl (fun K hK=>?_)
     go_simp
     have hb:=(Gr.refl ww2).new (.cells #[i64 0,i64 0,i64 0,i64 0,i64 0] 122)
     have Hw : Hid (IsObj (ww2.alloc (.cells #[i64 0,i64 0,i64 0,i64 0,i64 0] 122)) ww2.heap.size [i64 0,i64 0,i64 0,i64 0,i64 0]):=IsObj.made ww2 [i64 0,i64 0,i64 0,i64 0,i64 0] 122
     have Hne : Hid (bv ≠ ww2.heap.size):=by have:=Hv.out.lt; show _ ≠ _; omega
     replace Hv:=zIn (Hv.out.later hb.below)
     have Hsw : Hid (W.heap.size ≤ ww2.heap.size):=HG.out.below.size
     replace HA:=zIn (HA.out.gr hb)
     replace HG:=zIn (HG.out.step hb)
     clear hb
     generalize ww2.alloc (.cells #[i64 0,i64 0,i64 0,i64 0,i64 0] 122) = ww3 at HA HG Hw Hv ⊢
     generalize ww2.heap.size = bw at Hw Hsw Hne ⊢
     refine hK.out _ _ HA.out (fun _=>?_)
     (try simp only [Act.put,qset])
     clear hK K
     try clear ww2
     refine runT rfl (fun K hK=>?_)
     go_simp
     go_at_call 64
     refine (zAP y _ y0 y1).mono ?_
     rintro r ww4 ⟨rfl,hb⟩
     (try go_wp2_with fail)
     replace Hv:=zIn (Hv.out.later hb.below)
     replace Hw:=zIn (Hw.out.later hb.below)
     replace HA:=zIn (HA.out.gr hb)
     replace HG:=zIn (HG.out.step hb)
     clear hb
     refine hK.out _ _ HA.out (fun _=>?_)
     (try simp only [Act.put,qset])
     clear hK K
     try clear ww3
     refine runT rfl (fun K hK=>?_)
     have q0:=Hv.out.at' 0 _ rfl
     have q1:=Hv.out.at' 1 _ rfl
     have q2:=Hv.out.at' 2 _ rfl
     have q3:=Hv.out.at' 3 _ rfl
     have q4:=Hv.out.at' 4 _ rfl
     have f0:=Hv.out.fz 0
     have f1:=Hv.out.fz 1
     have f2:=Hv.out.fz 2
     have f3:=Hv.out.fz 3
     have f4:=Hv.out.fz 4
     go_simp
     clear q0 q1 q2 q3 q4 f0 f1 f2 f3 f4
     obtain ⟨g1,g2,g3⟩:=set5 HG.out Hv.out Hsv.out (i64 (x % 4)) (i64 (x / 4 % 2)) (i64 (x / 8 % 8192)) (i64 (x / 65536 % 16777216)) (i64 (x / 1099511627776))
     replace HG:=zIn g1
     replace Hv:=zIn g2
     replace Hw:=zIn (g3 _ _ Hw.out Hne.out)
     clear g1 g2 g3
     generalize ((((ww4.setCell ⟨bv,0,none⟩ (i64 (x % 4))).setCell ⟨bv,1,none⟩ (i64 (x / 4 % 2))).setCell ⟨bv,2,none⟩ (i64 (x / 8 % 8192))).setCell ⟨bv,3,none⟩ (i64 (x / 65536 % 16777216))).setCell ⟨bv,4,none⟩ (i64 (x / 1099511627776)) = wy at HG Hv Hw ⊢
     replace HA:=zIn (HA0.out.gr HG.out)
     refine hK.out _ _ HA.out (fun _=>?_)
     (try simp only [Act.put,qset])
     clear hK K
     refine runT rfl (fun K hK=>?_)
     have q0:=Hw.out.at' 0 _ rfl
     have q1:=Hw.out.at' 1 _ rfl
     have q2:=Hw.out.at' 2 _ rfl
     have q3:=Hw.out.at' 3 _ rfl
     have q4:=Hw.out.at' 4 _ rfl
     have f0:=Hw.out.fz 0
     have f1:=Hw.out.fz 1
     have f2:=Hw.out.fz 2
     have f3:=Hw.out.fz 3
     have f4:=Hw.out.fz 4
     go_simp
     clear q0 q1 q2 q3 q4 f0 f1 f2 f3 f4
     obtain ⟨g1,g2,g3⟩:=set5 HG.out Hw.out Hsw.out (i64 (y % 4)) (i64 (y / 4 % 2)) (i64 (y / 8 % 8192)) (i64 (y / 65536 % 16777216)) (i64 (y / 1099511627776))
     replace HG:=zIn g1
     replace Hw:=zIn g2
     replace Hv:=zIn (g3 _ _ Hv.out (fun e=>Hne.out e.symm))
     clear g1 g2 g3
     generalize ((((wy.setCell ⟨bw,0,none⟩ (i64 (y % 4))).setCell ⟨bw,1,none⟩ (i64 (y / 4 % 2))).setCell ⟨bw,2,none⟩ (i64 (y / 8 % 8192))).setCell ⟨bw,3,none⟩ (i64 (y / 65536 % 16777216))).setCell ⟨bw,4,none⟩ (i64 (y / 1099511627776)) = wz at HG Hv Hw ⊢
     replace HA:=zIn (HA0.out.gr HG.out)
     refine hK.out _ _ HA.out (fun _=>?_)
     (try simp only [Act.put,qset])
     clear hK K
     refine zAN ?_
     go_wp2_with fail
     go_meet
     exact ⟨bv,bw,rfl,rfl,Hv,Hw,HG⟩
   ·refine runT rfl (fun K hK=>?_)
    go_simp
    have hb:=(Gr.refl ww1).new (.cells #[i64 0,i64 0,i64 0,i64 0,i64 0] 122)
    have Hw : Hid (IsObj (ww1.alloc (.cells #[i64 0,i64 0,i64 0,i64 0,i64 0] 122)) ww1.heap.size [i64 0,i64 0,i64 0,i64 0,i64 0]):=IsObj.made ww1 [i64 0,i64 0,i64 0,i64 0,i64 0] 122
    have Hne : Hid (bv ≠ ww1.heap.size):=by have:=Hv.out.lt; show _ ≠ _; omega
    replace Hv:=zIn (Hv.out.later hb.below)
    have Hsw : Hid (W.heap.size ≤ ww1.heap.size):=HG.out.below.size
    replace HA:=zIn (HA.out.gr hb)
    replace HG:=zIn (HG.out.step hb)
    clear hb
    generalize ww1.alloc (.cells #[i64 0,i64 0,i64 0,i64 0,i64 0] 122) = ww2 at HA HG Hw Hv ⊢
    generalize ww1.heap.size = bw at Hw Hsw Hne ⊢
    refine hK.out _ _ HA.out (fun _=>?_)
    (try simp only [Act.put,qset])
    clear hK K
    try clear ww1
    refine runT rfl (fun K hK=>?_)
    go_simp
    go_at_call 64
    refine (zAP x _ x0 x1).mono ?_
    rintro r ww3 ⟨rfl,hb⟩
    (try go_wp2_with fail)
    replace Hv:=zIn (Hv.out.later hb.below)
    replace Hw:=zIn (Hw.out.later hb.below)
    replace HA:=zIn (HA.out.gr hb)
    replace HG:=zIn (HG.out.step hb)
    clear hb
    refine hK.out _ _ HA.out (fun _=>?_)
    (try simp only [Act.put,qset])
    clear hK K
    try clear ww2
    refine runT rfl (fun K hK=>?_)
    go_simp
    go_at_call 64
    refine (zAP y _ y0 y1).mono ?_
    rintro r ww4 ⟨rfl,hb⟩
    (try go_wp2_with fail)
    replace Hv:=zIn (Hv.out.later hb.below)
    replace Hw:=zIn (Hw.out.later hb.below)
    replace HA:=zIn (HA.out.gr hb)
    replace HG:=zIn (HG.out.step hb)
    clear hb
    refine hK.out _ _ HA.out (fun _=>?_)
    (try simp only [Act.put,qset])
    clear hK K
    try clear ww3
    refine runT rfl (fun K hK=>?_)
    have q0:=Hv.out.at' 0 _ rfl
    have q1:=Hv.out.at' 1 _ rfl
    have q2:=Hv.out.at' 2 _ rfl
    have q3:=Hv.out.at' 3 _ rfl
    have q4:=Hv.out.at' 4 _ rfl
    have f0:=Hv.out.fz 0
    have f1:=Hv.out.fz 1
    have f2:=Hv.out.fz 2
    have f3:=Hv.out.fz 3
    have f4:=Hv.out.fz 4
    go_simp
    clear q0 q1 q2 q3 q4 f0 f1 f2 f3 f4
    obtain ⟨g1,g2,g3⟩:=set5 HG.out Hv.out Hsv.out (i64 (x % 4)) (i64 (x / 4 % 2)) (i64 (x / 8 % 8192)) (i64 (x / 65536 % 16777216)) (i64 (x / 1099511627776))
    replace HG:=zIn g1
    replace Hv:=zIn g2
    replace Hw:=zIn (g3 _ _ Hw.out Hne.out)
    clear g1 g2 g3
    generalize ((((ww4.setCell ⟨bv,0,none⟩ (i64 (x % 4))).setCell ⟨bv,1,none⟩ (i64 (x / 4 % 2))).setCell ⟨bv,2,none⟩ (i64 (x / 8 % 8192))).setCell ⟨bv,3,none⟩ (i64 (x / 65536 % 16777216))).setCell ⟨bv,4,none⟩ (i64 (x / 1099511627776)) = wy at HG Hv Hw ⊢
    replace HA:=zIn (HA0.out.gr HG.out)
    refine hK.out _ _ HA.out (fun _=>?_)
    (try simp only [Act.put,qset])
    clear hK K
    refine runT rfl (fun K hK=>?_)
    have q0:=Hw.out.at' 0 _ rfl
    have q1:=Hw.out.at' 1 _ rfl
    have q2:=Hw.out.at' 2 _ rfl
    have q3:=Hw.out.at' 3 _ rfl
    have q4:=Hw.out.at' 4 _ rfl
    have f0:=Hw.out.fz 0
    have f1:=Hw.out.fz 1
    have f2:=Hw.out.fz 2
    have f3:=Hw.out.fz 3
    have f4:=Hw.out.fz 4
    go_simp
    clear q0 q1 q2 q3 q4 f0 f1 f2 f3 f4
    obtain ⟨g1,g2,g3⟩:=set5 HG.out Hw.out Hsw.out (i64 (y % 4)) (i64 (y / 4 % 2)) (i64 (y / 8 % 8192)) (i64 (y / 65536 % 16777216)) (i64 (y / 1099511627776))
    replace HG:=zIn g1
    replace Hw:=zIn g2
    replace Hv:=zIn (g3 _ _ Hv.out (fun e=>Hne.out e.symm))
    clear g1 g2 g3
    generalize ((((wy.setCell ⟨bw,0,none⟩ (i64 (y % 4))).setCell ⟨bw,1,none⟩ (i64 (y / 4 % 2))).setCell ⟨bw,2,none⟩ (i64 (y / 8 % 8192))).setCell ⟨bw,3,none⟩ (i64 (y / 65536 % 16777216))).setCell ⟨bw,4,none⟩ (i64 (y / 1099511627776)) = wz at HG Hv Hw ⊢
    replace HA:=zIn (HA0.out.gr HG.out)
    refine hK.out _ _ HA.out (fun _=>?_)
    (try simp only [Act.put,qset])
    clear hK K
    refine zAN ?_
    go_wp2_with fail
    go_meet
    exact ⟨bv,bw,rfl,rfl,Hv,Hw,HG⟩
  ·refine runT rfl (fun K hK=>?_)
   go_simp
   have hb:=(Gr.refl ww0).new (.cells #[i64 0,i64 0,i64 0,i64 0,i64 0] 122)
   have Hw : Hid (IsObj (ww0.alloc (.cells #[i64 0,i64 0,i64 0,i64 0,i64 0] 122)) ww0.heap.size [i64 0,i64 0,i64 0,i64 0,i64 0]):=IsObj.made ww0 [i64 0,i64 0,i64 0,i64 0,i64 0] 122
   have Hsw : Hid (W.heap.size ≤ ww0.heap.size):=HG.out.below.size
   replace HA:=zIn (HA.out.gr hb)
   replace HG:=zIn (HG.out.step hb)
   clear hb
   generalize ww0.alloc (.cells #[i64 0,i64 0,i64 0,i64 0,i64 0] 122) = ww1 at HA HG Hw ⊢
   generalize ww0.heap.size = bw at Hw Hsw ⊢
   refine hK.out _ _ HA.out (fun _=>?_)
   (try simp only [Act.put,qset])
   clear hK K
   try clear ww0
   refine ⟨?_, ?_⟩
   ·refine runT rfl (fun K hK=>?_)
    go_simp
    go_at_call 64
    refine (zAP x _ x0 x1).mono ?_
    rintro r ww2 ⟨rfl,hb⟩
    (try go_wp2_with fail)
    replace Hw:=zIn (Hw.out.later hb.below)
    replace HA:=zIn (HA.out.gr hb)
    replace HG:=zIn (HG.out.step hb)
    clear hb
    refine hK.out _ _ HA.out (fun _=>?_)
    (try simp only [Act.put,qset])
    clear hK K
    try clear ww1
    refine ⟨?_, ?_⟩
    ·refine runT rfl (fun K hK=>?_)
     go_simp
     go_at_call 64
     refine (zAP y _ y0 y1).mono ?_
     rintro r ww3 ⟨rfl,hb⟩
     (try go_wp2_with fail)
     replace Hw:=zIn (Hw.out.later hb.below)
     replace HA:=zIn (HA.out.gr hb)
     replace HG:=zIn (HG.out.step hb)
     clear hb
     refine hK.out _ _ HA.out (fun _=>?_)
     (try simp only [Act.put,qset])
     clear hK K
     try clear ww2
     refine runT rfl (fun K hK=>?_)
     go_simp
     have hb:=(Gr.refl ww3).new (.cells #[i64 0,i64 0,i64 0,i64 0,i64 0] 122)
     have Hv : Hid (IsObj (ww3.alloc (.cells #[i64 0,i64 0,i64 0,i64 0,i64 0] 122)) ww3.heap.size [i64 0,i64 0,i64 0,i64 0,i64 0]):=IsObj.made ww3 [i64 0,i64 0,i64 0,i64 0,i64 0] 122
     have Hne : Hid (ww3.heap.size ≠ bw):=by have:=Hw.out.lt; show _ ≠ _; omega
     replace Hw:=zIn (Hw.out.later hb.below)
     have Hsv : Hid (W.heap.size ≤ ww3.heap.size):=HG.out.below.size
     replace HA:=zIn (HA.out.gr hb)
     replace HG:=zIn (HG.out.step hb)
     clear hb
     generalize ww3.alloc (.cells #[i64 0,i64 0,i64 0,i64 0,i64 0] 122) = ww4 at HA HG Hv Hw ⊢
     generalize ww3.heap.size = bv at Hv Hsv Hne ⊢
     refine hK.out _ _ HA.out (fun _=>?_)
     (try simp only [Act.put,qset])
     clear hK K
     try clear ww3
     refine runT rfl (fun K hK=>?_)
     have q0:=Hv.out.at' 0 _ rfl
     have q1:=Hv.out.at' 1 _ rfl
     have q2:=Hv.out.at' 2 _ rfl
     have q3:=Hv.out.at' 3 _ rfl
     have q4:=Hv.out.at' 4 _ rfl
     have f0:=Hv.out.fz 0
     have f1:=Hv.out.fz 1
     have f2:=Hv.out.fz 2
     have f3:=Hv.out.fz 3
     have f4:=Hv.out.fz 4
     go_simp
     clear q0 q1 q2 q3 q4 f0 f1 f2 f3 f4
     obtain ⟨g1,g2,g3⟩:=set5 HG.out Hv.out Hsv.out (i64 (x % 4)) (i64 (x / 4 % 2)) (i64 (x / 8 % 8192)) (i64 (x / 65536 % 16777216)) (i64 (x / 1099511627776))
     replace HG:=zIn g1
     replace Hv:=zIn g2
     replace Hw:=zIn (g3 _ _ Hw.out Hne.out)
     clear g1 g2 g3
     generalize ((((ww4.setCell ⟨bv,0,none⟩ (i64 (x % 4))).setCell ⟨bv,1,none⟩ (i64 (x / 4 % 2))).setCell ⟨bv,2,none⟩ (i64 (x / 8 % 8192))).setCell ⟨bv,3,none⟩ (i64 (x / 65536 % 16777216))).setCell ⟨bv,4,none⟩ (i64 (x / 1099511627776)) = wy at HG Hv Hw ⊢
     replace HA:=zIn (HA0.out.gr HG.out)
     refine hK.out _ _ HA.out (fun _=>?_)
     (try simp only [Act.put,qset])
     clear hK K
     refine runT rfl (fun K hK=>?_)
     have q0:=Hw.out.at' 0 _ rfl
     have q1:=Hw.out.at' 1 _ rfl
     have q2:=Hw.out.at' 2 _ rfl
     have q3:=Hw.out.at' 3 _ rfl
     have q4:=Hw.out.at' 4 _ rfl
     have f0:=Hw.out.fz 0
     have f1:=Hw.out.fz 1
     have f2:=Hw.out.fz 2
     have f3:=Hw.out.fz 3
     have f4:=Hw.out.fz 4
     go_simp
     clear q0 q1 q2 q3 q4 f0 f1 f2 f3 f4
     obtain ⟨g1,g2,g3⟩:=set5 HG.out Hw.out Hsw.out (i64 (y % 4)) (i64 (y / 4 % 2)) (i64 (y / 8 % 8192)) (i64 (y / 65536 % 16777216)) (i64 (y / 1099511627776))
     replace HG:=zIn g1
     replace Hw:=zIn g2
     replace Hv:=zIn (g3 _ _ Hv.out (fun e=>Hne.out e.symm))
     clear g1 g2 g3
     generalize ((((wy.setCell ⟨bw,0,none⟩ (i64 (y % 4))).setCell ⟨bw,1,none⟩ (i64 (y / 4 % 2))).setCell ⟨bw,2,none⟩ (i64 (y / 8 % 8192))).setCell ⟨bw,3,none⟩ (i64 (y / 65536 % 16777216))).setCell ⟨bw,4,none⟩ (i64 (y / 1099511627776)) = wz at HG Hv Hw ⊢
     replace HA:=zIn (HA0.out.gr HG.out)
     refine hK.out _ _ HA.out (fun _=>?_)
     (try simp only [Act.put,qset])
     clear hK K
     refine zAN ?_
     go_wp2_with fail
     go_meet
     exact ⟨bv,bw,rfl,rfl,Hv,Hw,HG⟩
    ·refine runT rfl (fun K hK=>?_)
     go_simp
     have hb:=(Gr.refl ww2).new (.cells #[i64 0,i64 0,i64 0,i64 0,i64 0] 122)
     have Hv : Hid (IsObj (ww2.alloc (.cells #[i64 0,i64 0,i64 0,i64 0,i64 0] 122)) ww2.heap.size [i64 0,i64 0,i64 0,i64 0,i64 0]):=IsObj.made ww2 [i64 0,i64 0,i64 0,i64 0,i64 0] 122
     have Hne : Hid (ww2.heap.size ≠ bw):=by have:=Hw.out.lt; show _ ≠ _; omega
     replace Hw:=zIn (Hw.out.later hb.below)
     have Hsv : Hid (W.heap.size ≤ ww2.heap.size):=HG.out.below.size
     replace HA:=zIn (HA.out.gr hb)
     replace HG:=zIn (HG.out.step hb)
     clear hb
     generalize ww2.alloc (.cells #[i64 0,i64 0,i64 0,i64 0,i64 0] 122) = ww3 at HA HG Hv Hw ⊢
     generalize ww2.heap.size = bv at Hv Hsv Hne ⊢
     refine hK.out _ _ HA.out (fun _=>?_)
     (try simp only [Act.put,qset])
     clear hK K
     try clear ww2
     refine runT rfl (fun K hK=>?_)
     go_simp
     go_at_call 64
     refine (zAP y _ y0 y1).mono ?_
     rintro r ww4 ⟨rfl,hb⟩
     (try go_wp2_with fail)
     replace Hv:=zIn (Hv.out.later hb.below)
     replace Hw:=zIn (Hw.out.later hb.below)
     replace HA:=zIn (HA.out.gr hb)
     replace HG:=zIn (HG.out.step hb)
     clear hb
     refine hK.out _ _ HA.out (fun _=>?_)
     (try simp only [Act.put,qset])
     clear hK K
     try clear ww3
     refine runT rfl (fun K hK=>?_)
     have q0:=Hv.out.at' 0 _ rfl
     have q1:=Hv.out.at' 1 _ rfl
     have q2:=Hv.out.at' 2 _ rfl
     have q3:=Hv.out.at' 3 _ rfl
     have q4:=Hv.out.at' 4 _ rfl
     have f0:=Hv.out.fz 0
     have f1:=Hv.out.fz 1
     have f2:=Hv.out.fz 2
     have f3:=Hv.out.fz 3
     have f4:=Hv.out.fz 4
     go_simp
     clear q0 q1 q2 q3 q4 f0 f1 f2 f3 f4
     obtain ⟨g1,g2,g3⟩:=set5 HG.out Hv.out Hsv.out (i64 (x % 4)) (i64 (x / 4 % 2)) (i64 (x / 8 % 8192)) (i64 (x / 65536 % 16777216)) (i64 (x / 1099511627776))
     replace HG:=zIn g1
     replace Hv:=zIn g2
     replace Hw:=zIn (g3 _ _ Hw.out Hne.out)
     clear g1 g2 g3
     generalize ((((ww4.setCell ⟨bv,0,none⟩ (i64 (x % 4))).setCell ⟨bv,1,none⟩ (i64 (x / 4 % 2))).setCell ⟨bv,2,none⟩ (i64 (x / 8 % 8192))).setCell ⟨bv,3,none⟩ (i64 (x / 65536 % 16777216))).setCell ⟨bv,4,none⟩ (i64 (x / 1099511627776)) = wy at HG Hv Hw ⊢
     replace HA:=zIn (HA0.out.gr HG.out)
     refine hK.out _ _ HA.out (fun _=>?_)
     (try simp only [Act.put,qset])
     clear hK K
     refine runT rfl (fun K hK=>?_)
     have q0:=Hw.out.at' 0 _ rfl
     have q1:=Hw.out.at' 1 _ rfl
     have q2:=Hw.out.at' 2 _ rfl
     have q3:=Hw.out.at' 3 _ rfl
     have q4:=Hw.out.at' 4 _ rfl
     have f0:=Hw.out.fz 0
     have f1:=Hw.out.fz 1
     have f2:=Hw.out.fz 2
     have f3:=Hw.out.fz 3
     have f4:=Hw.out.fz 4
     go_simp
     clear q0 q1 q2 q3 q4 f0 f1 f2 f3 f4
     obtain ⟨g1,g2,g3⟩:=set5 HG.out Hw.out Hsw.out (i64 (y % 4)) (i64 (y / 4 % 2)) (i64 (y / 8 % 8192)) (i64 (y / 65536 % 16777216)) (i64 (y / 1099511627776))
     replace HG:=zIn g1
     replace Hw:=zIn g2
     replace Hv:=zIn (g3 _ _ Hv.out (fun e=>Hne.out e.symm))
     clear g1 g2 g3
     generalize ((((wy.setCell ⟨bw,0,none⟩ (i64 (y % 4))).setCell ⟨bw,1,none⟩ (i64 (y / 4 % 2))).setCell ⟨bw,2,none⟩ (i64 (y / 8 % 8192))).setCell ⟨bw,3,none⟩ (i64 (y / 65536 % 16777216))).setCell ⟨bw,4,none⟩ (i64 (y / 1099511627776)) = wz at HG Hv Hw ⊢
     replace HA:=zIn (HA0.out.gr HG.out)
     refine hK.out _ _ HA.out (fun _=>?_)
     (try simp only [Act.put,qset])
     clear hK K
     refine zAN ?_
     go_wp2_with fail
     go_meet
     exact ⟨bv,bw,rfl,rfl,Hv,Hw,HG⟩
   ·refine runT rfl (fun K hK=>?_)
    go_simp
    have hb:=(Gr.refl ww1).new (.cells #[i64 0,i64 0,i64 0,i64 0,i64 0] 122)
    have Hv : Hid (IsObj (ww1.alloc (.cells #[i64 0,i64 0,i64 0,i64 0,i64 0] 122)) ww1.heap.size [i64 0,i64 0,i64 0,i64 0,i64 0]):=IsObj.made ww1 [i64 0,i64 0,i64 0,i64 0,i64 0] 122
    have Hne : Hid (ww1.heap.size ≠ bw):=by have:=Hw.out.lt; show _ ≠ _; omega
    replace Hw:=zIn (Hw.out.later hb.below)
    have Hsv : Hid (W.heap.size ≤ ww1.heap.size):=HG.out.below.size
    replace HA:=zIn (HA.out.gr hb)
    replace HG:=zIn (HG.out.step hb)
    clear hb
    generalize ww1.alloc (.cells #[i64 0,i64 0,i64 0,i64 0,i64 0] 122) = ww2 at HA HG Hv Hw ⊢
    generalize ww1.heap.size = bv at Hv Hsv Hne ⊢
    refine hK.out _ _ HA.out (fun _=>?_)
    (try simp only [Act.put,qset])
    clear hK K
    try clear ww1
    refine runT rfl (fun K hK=>?_)
    go_simp
    go_at_call 64
    refine (zAP x _ x0 x1).mono ?_
    rintro r ww3 ⟨rfl,hb⟩
    (try go_wp2_with fail)
    replace Hv:=zIn (Hv.out.later hb.below)
    replace Hw:=zIn (Hw.out.later hb.below)
    replace HA:=zIn (HA.out.gr hb)
    replace HG:=zIn (HG.out.step hb)
    clear hb
    refine hK.out _ _ HA.out (fun _=>?_)
    (try simp only [Act.put,qset])
    clear hK K
    try clear ww2
    refine runT rfl (fun K hK=>?_)
    go_simp
    go_at_call 64
    refine (zAP y _ y0 y1).mono ?_
    rintro r ww4 ⟨rfl,hb⟩
    (try go_wp2_with fail)
    replace Hv:=zIn (Hv.out.later hb.below)
    replace Hw:=zIn (Hw.out.later hb.below)
    replace HA:=zIn (HA.out.gr hb)
    replace HG:=zIn (HG.out.step hb)
    clear hb
    refine hK.out _ _ HA.out (fun _=>?_)
    (try simp only [Act.put,qset])
    clear hK K
    try clear ww3
    refine runT rfl (fun K hK=>?_)
    have q0:=Hv.out.at' 0 _ rfl
    have q1:=Hv.out.at' 1 _ rfl
    have q2:=Hv.out.at' 2 _ rfl
    have q3:=Hv.out.at' 3 _ rfl
    have q4:=Hv.out.at' 4 _ rfl
    have f0:=Hv.out.fz 0
    have f1:=Hv.out.fz 1
    have f2:=Hv.out.fz 2
    have f3:=Hv.out.fz 3
    have f4:=Hv.out.fz 4
    go_simp
    clear q0 q1 q2 q3 q4 f0 f1 f2 f3 f4
    obtain ⟨g1,g2,g3⟩:=set5 HG.out Hv.out Hsv.out (i64 (x % 4)) (i64 (x / 4 % 2)) (i64 (x / 8 % 8192)) (i64 (x / 65536 % 16777216)) (i64 (x / 1099511627776))
    replace HG:=zIn g1
    replace Hv:=zIn g2
    replace Hw:=zIn (g3 _ _ Hw.out Hne.out)
    clear g1 g2 g3
    generalize ((((ww4.setCell ⟨bv,0,none⟩ (i64 (x % 4))).setCell ⟨bv,1,none⟩ (i64 (x / 4 % 2))).setCell ⟨bv,2,none⟩ (i64 (x / 8 % 8192))).setCell ⟨bv,3,none⟩ (i64 (x / 65536 % 16777216))).setCell ⟨bv,4,none⟩ (i64 (x / 1099511627776)) = wy at HG Hv Hw ⊢
    replace HA:=zIn (HA0.out.gr HG.out)
    refine hK.out _ _ HA.out (fun _=>?_)
    (try simp only [Act.put,qset])
    clear hK K
    refine runT rfl (fun K hK=>?_)
    have q0:=Hw.out.at' 0 _ rfl
    have q1:=Hw.out.at' 1 _ rfl
    have q2:=Hw.out.at' 2 _ rfl
    have q3:=Hw.out.at' 3 _ rfl
    have q4:=Hw.out.at' 4 _ rfl
    have f0:=Hw.out.fz 0
    have f1:=Hw.out.fz 1
    have f2:=Hw.out.fz 2
    have f3:=Hw.out.fz 3
    have f4:=Hw.out.fz 4
    go_simp
    clear q0 q1 q2 q3 q4 f0 f1 f2 f3 f4
    obtain ⟨g1,g2,g3⟩:=set5 HG.out Hw.out Hsw.out (i64 (y % 4)) (i64 (y / 4 % 2)) (i64 (y / 8 % 8192)) (i64 (y / 65536 % 16777216)) (i64 (y / 1099511627776))
    replace HG:=zIn g1
    replace Hw:=zIn g2
    replace Hv:=zIn (g3 _ _ Hv.out (fun e=>Hne.out e.symm))
    clear g1 g2 g3
    generalize ((((wy.setCell ⟨bw,0,none⟩ (i64 (y % 4))).setCell ⟨bw,1,none⟩ (i64 (y / 4 % 2))).setCell ⟨bw,2,none⟩ (i64 (y / 8 % 8192))).setCell ⟨bw,3,none⟩ (i64 (y / 65536 % 16777216))).setCell ⟨bw,4,none⟩ (i64 (y / 1099511627776)) = wz at HG Hv Hw ⊢
    replace HA:=zIn (HA0.out.gr HG.out)
    refine hK.out _ _ HA.out (fun _=>?_)
    (try simp only [Act.put,qset])
    clear hK K
    refine zAN ?_
    go_wp2_with fail
    go_meet
    exact ⟨bv,bw,rfl,rfl,Hv,Hw,HG⟩
 case rest =>
  obtain ⟨bv,bw,rfl,rfl,Hv,Hw,HG⟩:=hcut
  clear a0 a1 a2
  have v1:=Hv.out.at' 1 _ rfl
  have v3:=Hv.out.at' 3 _ rfl
  have v4:=Hv.out.at' 4 _ rfl
  have w1:=Hw.out.at' 1 _ rfl
  have w3:=Hw.out.at' 3 _ rfl
  have w4:=Hw.out.at' 4 _ rfl
  obtain ⟨L,hL⟩ : ∃ L : Int,laterI x y i j = L:=⟨_,rfl⟩
  have hbd:=zGX x y i j
  rw [hL] at hbd
  have HL:=zIn hL
  clear hL
  go_wp2_with fail
  refine (zFQ _ _ _ _ _).mono ?_
  rintro r wr ⟨rfl,hb1⟩
  replace v1:=hb1.cell v1
  replace w1:=hb1.cell w1
  clear v3 v4 w3 w4
  replace HG:=zIn (HG.out.step hb1)
  clear hb1 Hv Hw
  go_wp2_with fail
  refine (zC7 _ _ _).mono ?_
  rintro r wr2 ⟨rfl,rfl⟩
  go_wp2_with fail
  refine (zDf (cmpS (x / 65536 % 16777216) (x / 1099511627776) (y / 65536 % 16777216) (y / 1099511627776)) (cmpI i j) _ _ (by go_simp) (by go_simp)).mono ?_
  rintro r wr2 ⟨rfl,rfl⟩
  replace v1:=zEx v1 (.cells #[i64 (cmpS (x / 65536 % 16777216) (x / 1099511627776) (y / 65536 % 16777216) (y / 1099511627776)),i64 (cmpI i j)] 3)
  replace w1:=zEx w1 (.cells #[i64 (cmpS (x / 65536 % 16777216) (x / 1099511627776) (y / 65536 % 16777216) (y / 1099511627776)),i64 (cmpI i j)] 3)
  replace HG:=zIn (HG.out.new (.cells #[i64 (cmpS (x / 65536 % 16777216) (x / 1099511627776) (y / 65536 % 16777216) (y / 1099511627776)),i64 (cmpI i j)] 3))
  generalize wr.alloc (.cells #[i64 (cmpS (x / 65536 % 16777216) (x / 1099511627776) (y / 65536 % 16777216) (y / 1099511627776)),i64 (cmpI i j)] 3) = wr3 at v1 w1 HG ⊢
  rw [show orI (cmpS (x / 65536 % 16777216) (x / 1099511627776) (y / 65536 % 16777216) (y / 1099511627776)) (cmpI i j) = L from HL.out]
  by_cases he : x / 4 % 2 = 0
  ·have he' : (x / 4 % 2 == 0) = true:=by simp [he]
   have HE:=zIn he
   clear he
   go_wp2_with fail
   refine (zCp _ _ _).mono ?_
   rintro r wr2 ⟨rfl,rfl⟩
   go_wp2_with fail
   refine (zDf (cmpI (x / 4 % 2) (y / 4 % 2)) (-L) _ _ (by go_simp) (by go_simp)).mono ?_
   rintro r wr2 ⟨rfl,rfl⟩
   go_wp2_with fail
   go_ret
   exact ⟨by unfold rightI; rw [if_pos HE.out,HL.out]; rfl,HG.out.new _⟩
  ·have he' : (x / 4 % 2 == 0) = false:=by simp [he]
   have HE:=zIn he
   clear he
   go_wp2_with fail
   refine (zCp _ _ _).mono ?_
   rintro r wr2 ⟨rfl,rfl⟩
   go_wp2_with fail
   refine (zDf (cmpI (x / 4 % 2) (y / 4 % 2)) L _ _ (by go_simp) (by go_simp)).mono ?_
   rintro r wr2 ⟨rfl,rfl⟩
   go_wp2_with fail
   go_ret
   exact ⟨by unfold rightI; rw [if_neg HE.out,HL.out]; rfl,HG.out.new _⟩
end
section
def xkey (x : Int) (i : Nat) : Int:=pkey (x / 4 % 2) (x / 65536 % 16777216) (x / 1099511627776) i
theorem zHb (a b c d : Int) : cmpS c d a b = -cmpS a b c d:=by
 rcases zBL a b c d with ⟨h,h2⟩ | ⟨h,rfl,rfl⟩ | ⟨h,h2⟩
 ·rcases zBL c d a b with ⟨k,k2⟩ | ⟨k,k2⟩ | ⟨k,k2⟩ <;> omega
 ·rw [h]
  rfl
 ·rcases zBL c d a b with ⟨k,k2⟩ | ⟨k,k2⟩ | ⟨k,k2⟩ <;> omega
theorem zFx (c : Int) (i j : Nat) : 0 < orI c (cmpI i j) ↔ (0 < c ∨ (c = 0 ∧ j < i)):=by
 unfold orI cmpI
 repeat' split
 all_goals omega
theorem zGm (c : Int) (i j : Nat) : orI c (cmpI i j) < 0 ↔ (0 < -c ∨ (-c = 0 ∧ i < j)):=by
 unfold orI cmpI
 repeat' split
 all_goals omega
section
variable {x y : Int} {i j : Nat}
theorem zFS (x0 : 0 ≤ x) (x1 : x ≤ 18446744073709551615) (y0 : 0 ≤ y) (y1 : y ≤ 18446744073709551615) (i1 : i < 1048576) (j1 : j < 1048576) :
  0 < laterI x y i j ↔ lkey (y / 65536 % 16777216) (y / 1099511627776) j < lkey (x / 65536 % 16777216) (x / 1099511627776) i:=by
 unfold laterI
 rw [zFx,zD2 (by omega) (by omega) (by omega) (by omega) i1 j1]
theorem zFK (x0 : 0 ≤ x) (x1 : x ≤ 18446744073709551615) (y0 : 0 ≤ y) (y1 : y ≤ 18446744073709551615) (i1 : i < 1048576) (j1 : j < 1048576) :
  laterI x y i j < 0 ↔ lkey (x / 65536 % 16777216) (x / 1099511627776) i < lkey (y / 65536 % 16777216) (y / 1099511627776) j:=by
 unfold laterI
 rw [zGm, ← zHb,zD2 (by omega) (by omega) (by omega) (by omega) j1 i1]
theorem zFz (x0 : 0 ≤ x) (x1 : x ≤ 18446744073709551615) (y0 : 0 ≤ y) (y1 : y ≤ 18446744073709551615) (i1 : i < 1048576) (j1 : j < 1048576) :
  (rightI x y i j < 0 ↔ xkey x i < xkey y j) ∧ (0 < rightI x y i j ↔ xkey y j < xkey x i):=by
 have p:=zFS x0 x1 y0 y1 i1 j1
 have q:=zFK x0 x1 y0 y1 i1 j1
 have n1 : 0 ≤ lkey (x / 65536 % 16777216) (x / 1099511627776) i:=zDT (by omega) (by omega)
 have n2 : 0 ≤ lkey (y / 65536 % 16777216) (y / 1099511627776) j:=zDT (by omega) (by omega)
 unfold rightI xkey pkey
 generalize laterI x y i j = L at p q ⊢
 generalize lkey (x / 65536 % 16777216) (x / 1099511627776) i = u at p q n1 ⊢
 generalize lkey (y / 65536 % 16777216) (y / 1099511627776) j = v at p q n2 ⊢
 have e0 : x / 4 % 2 = 0 ∨ x / 4 % 2 = 1:=by omega
 have f0 : y / 4 % 2 = 0 ∨ y / 4 % 2 = 1:=by omega
 generalize x / 4 % 2 = e at e0 ⊢
 generalize y / 4 % 2 = f at f0 ⊢
 clear x0 x1 y0 y1 i1 j1
 rcases e0 with rfl | rfl <;> rcases f0 with rfl | rfl
 ·simp only [cmpI,orI,Int.lt_irrefl,if_false,if_true]
  omega
 ·simp [cmpI,orI]
  omega
 ·simp [cmpI,orI]
  omega
 ·simp only [cmpI,orI,Int.lt_irrefl,if_false,if_true,show ¬ ((1 : Int) = 0) by decide]
  omega
theorem zHN (x0 : 0 ≤ x) (x1 : x ≤ 18446744073709551615) (y0 : 0 ≤ y) (y1 : y ≤ 18446744073709551615) (i1 : i < 1048576) (j1 : j < 1048576) (h : xkey x i = xkey y j) : i = j ∧ x / 4 % 2 = y / 4 % 2 ∧ x / 65536 % 16777216 = y / 65536 % 16777216 ∧ x / 1099511627776 = y / 1099511627776 :=
 zHY (by omega) (by omega) (by omega) (by omega) (by omega) (by omega) (by omega) (by omega) i1 j1 h
end
def wkey (ws : List Int) (i : Nat) : Int:=xkey (ws.getD i 0) i
def cfI (ws : List Int) (n i j : Nat) : Int:=rightI (ws.getD (i % n) 0) (ws.getD (j % n) 0) (i % n) (j % n)
theorem zGU {ws : List Int} {n : Nat} (hf : ∀ i,0 ≤ ws.getD i 0 ∧ ws.getD i 0 ≤ 18446744073709551615) (hn : n ≤ 1000000) (h0 : 0 < n) (i j : Nat) :
  (cfI ws n i j < 0 ↔ wkey ws (i % n) < wkey ws (j % n)) ∧ (0 < cfI ws n i j ↔ wkey ws (j % n) < wkey ws (i % n)) :=
 zFz (hf _).1 (hf _).2 (hf _).1 (hf _).2 (by have:=Nat.mod_lt i h0; omega) (by have:=Nat.mod_lt j h0; omega)
theorem ltI {ws : List Int} {n : Nat} (hf : ∀ i,0 ≤ ws.getD i 0 ∧ ws.getD i 0 ≤ 18446744073709551615) (hn : n ≤ 1000000) (h0 : 0 < n) (i j : Nat) : ltOf (cfI ws n) i j = decide (wkey ws (i % n) < wkey ws (j % n)):=by
 unfold ltOf
 exact decide_eq_decide.2 (zGU hf hn h0 i j).1
theorem swoI {ws : List Int} {n : Nat} (hf : ∀ i,0 ≤ ws.getD i 0 ∧ ws.getD i 0 ≤ 18446744073709551615) (hn : n ≤ 1000000) (h0 : 0 < n) : Go.Sort.SWO (ltOf (cfI ws n)) where
 irrefl x:=by rw [ltI hf hn h0]; simp
 trans x y z h1 h2:=by rw [ltI hf hn h0] at *; simp at *; omega
 ntrans x y z h1 h2:=by rw [ltI hf hn h0] at *; simp at *; omega
theorem zHJ {ws : List Int} (hf : ∀ i,0 ≤ ws.getD i 0 ∧ ws.getD i 0 ≤ 18446744073709551615) {i j : Nat} (hi : i < 1000000) (hj : j < 1000000) (h : wkey ws i = wkey ws j) : i = j :=
 (zHN (hf _).1 (hf _).2 (hf _).1 (hf _).2 (by omega) (by omega) h).1
end
section
structure IsWs (w : World) (a : Option Addr) (ws : List Int) : Prop where
 has : 0 < ws.length → ∃ b off,a = some ⟨b,off,none⟩ ∧ ∀ i,i < ws.length → w.cell? ⟨b,off + i,none⟩ = some (u64 (ws.getD i 0))
 fit : ∀ i,0 ≤ ws.getD i 0 ∧ ws.getD i 0 ≤ 18446744073709551615
theorem IsWs.later {w w' : World} {a : Option Addr} {ws : List Int} (h : IsWs w a ws) (k : Below w.heap.size w w') : IsWs w' a ws :=
 ⟨fun h0=>by obtain ⟨b,off,h1,h2⟩:=h.has h0; exact ⟨b,off,h1,fun i hi=>(zAL k _ (by rw [h2 i hi]; rfl)).trans (h2 i hi)⟩,h.fit⟩
def live (ws : List Int) (i : Nat) : Prop:=ws.getD i 0 % 4 = 1
instance (ws : List Int) (i : Nat) : Decidable (live ws i):=inferInstanceAs (Decidable (_ = _))
def upto (ws : List Int) (e : Nat) : List Nat:=(List.range e).filter (fun i=>decide (live ws i))
theorem zHE {ws : List Int} {e : Nat} (h : live ws e) : upto ws (e + 1) = upto ws e ++ [e]:=by
 unfold upto
 rw [List.range_succ,List.filter_append,List.filter_cons_of_pos (by simpa using h)]
 rfl
theorem zIT {ws : List Int} {e : Nat} (h : ¬ live ws e) : upto ws (e + 1) = upto ws e:=by
 unfold upto
 rw [List.range_succ,List.filter_append,List.filter_cons_of_neg (by simpa using h)]
 simp
theorem zA9 (ws : List Int) (e : Nat) : (upto ws e).length ≤ e:=by
 have:=List.length_filter_le (fun i=>decide (live ws i)) (List.range e)
 rwa [List.length_range] at this
theorem zAp {ws : List Int} {e i : Nat} : i ∈ upto ws e ↔ i < e ∧ live ws i:=by simp [upto,List.mem_filter]
theorem zCt (ws : List Int) (e : Nat) : (upto ws e).Nodup:=List.nodup_range.filter _
theorem zHx (W : World) : Hold W W [tRow W.heap.size 3 1 (.slice none 0 0) 0 []] :=
 Hold.more (l:=[]) (Hold.nil (Below.refl _ _)) (Below.refl _ _) (zAx _ _ _ _ _ _) ⟨rfl,.inl ⟨rfl,rfl⟩⟩ (fun q hq=>by cases hq)
theorem zCD (W : World) (a : Option Addr) (cap : Nat) (ws : List Int) (hW : IsWs W a ws) (hn : ws.length ≤ 1000000) :
  Calls Tryz.prog 76 #[.slice a ws.length cap] W fun r w' => ∃ v,r = .returned v ∧ w'.ownsRow W.heap.size 3 1 v (upto ws ws.length).length ((upto ws ws.length).map (fun i : Nat=>i64 (i : Int))) ∧ Below W.heap.size W w':=by
 have H0:=zIn (zHx W)
 have HW:=zIn hW
 clear hW
 obtain ⟨len,hlen⟩ : ∃ len : Nat,ws.length = len:=⟨_,rfl⟩
 have Hlen:=zIn hlen
 rw [hlen] at hn ⊢
 clear hlen
 go_enter Tryz.func76,Tryz.ntmps76
 go_wp2_with fail
 obtain ⟨wo,rfl⟩ : ∃ wo : World,wo = W:=⟨_,rfl⟩
 go_loopw [3,8] (fun vb j wr => ∃ (e : Nat),e ≤ len ∧ j = .int .i64 e ∧ Hid (Hold wo wr [tRow wo.heap.size 3 1 vb (upto ws e).length ((upto ws e).map (fun i : Nat=>i64 (i : Int)))])) (fun _ j _=>len - (intOf j).toNat)
 case atStart=>exact ⟨0,by omega,rfl,H0⟩
 case round =>
  clear H0
  obtain ⟨e,he,rfl,HH⟩:=hrel
  rcases Nat.lt_or_ge e len with heN | heN
  ·have heN' : (e : Int) < (len : Int):=by omega
   obtain ⟨b,off,rfl,hc⟩:=HW.out.has (by have:=Hlen.out; omega)
   have hx:=(HH.out.below.cell (p:=⟨b,off + e,none⟩) (World.block_lt_of_cell? _ _ (hc e (by have:=Hlen.out; omega)))).trans (hc e (by have:=Hlen.out; omega))
   have hf:=HW.out.fit e
   have hul:=zA9 ws e
   obtain ⟨x,hxe⟩ : ∃ x : Int,ws.getD e 0 = x:=⟨_,rfl⟩
   rw [hxe] at hx hf
   obtain ⟨x0,x1⟩:=hf
   have HX:=zIn hxe
   clear hxe hc
   go_wp2_with fail
   refine (zAi x _ x0 x1).mono ?_
   rintro r w5 ⟨rfl,hb5⟩
   have HH5:=zIn (HH.out.later hb5)
   clear hb5 HH hx
   have HRW : Hid (World.ownsRow _ _ _ _ _ _ _):=Hold.has HH5.out 0 _ rfl
   obtain ⟨A,cp,rfl⟩:=zAK HRW.out
   clear HRW
   go_wp2_with fail
   change (?kk : Act → World → Prop) (Act.put _ _ (i64 (x % 4))) _
   by_cases h1 : x % 4 = 1
   ·have h1' : (x % 4 == 1) = true:=by simp [h1]
    have HL : Hid (live ws e):=by show ws.getD e 0 % 4 = 1; rw [HX.out]; exact h1
    clear h1
    go_wp2_with (at_builtin; refine zAJ rfl _ _ 82 rfl wo.heap.size 3 _ 1 8 zHC (.slice A (upto ws e).length cp) (upto ws e).length ((upto ws e).map (fun i : Nat=>i64 (i : Int))) rfl (Hold.has (Hold.later HH5.out (zAA (Below.refl _ _) (.cells #[.int .i64 e] 3))) 0 _ rfl) (some ⟨_,0,none⟩) 1 1 [.int .i64 e] rfl (zBf w5 [.int .i64 e] 3 1 1 rfl (zGC _ _)) (by unfold maxLen; omega) (by omega) ((Hold.later HH5.out (zAA (Below.refl _ _) _)).size) ?_; intro vb' w8 hG; have HH8:=zIn ((Hold.later HH5.out (zAA (Below.refl _ _) (.cells #[.int .i64 e] 3))).append 0 rfl rfl hG); clear hG)
    go_roundw
    case rel=>exact ⟨e + 1,by omega,by go_num,by rw [zHE HL.out,List.length_append,List.map_append]; exact HH8⟩
    case measure=>first | omega | (simp [intOf]; done) | (simp [intOf]; omega)
   ·have h1' : (x % 4 == 1) = false:=by simp [h1]
    have HL : Hid (¬ live ws e):=by show ¬ (ws.getD e 0 % 4 = 1); rw [HX.out]; exact h1
    clear h1
    go_wp2_with fail
    go_roundw
    case rel=>exact ⟨e + 1,by omega,by go_num,by rw [zIT HL.out]; exact HH5⟩
    case measure=>first | omega | (simp [intOf]; done) | (simp [intOf]; omega)
  ·have heN' : ¬ (e : Int) < (len : Int):=by omega
   obtain rfl : e = len:=by omega
   have HRW : Hid (World.ownsRow _ _ _ _ _ _ _):=Hold.has HH.out 0 _ rfl
   obtain ⟨A,cp,rfl⟩:=zAK HRW.out
   go_wp2_with fail
   go_ret
   exact ⟨_,rfl,HRW.out,HH.out.below⟩
end
section
open Go.RowKit Go.Shelf Go.Lib Go.Sort
structure IsOrder (ws : List Int) (S : List Nat) : Prop where
 rise : S.Pairwise (fun i j=>wkey ws i < wkey ws j)
 mem : ∀ i,i ∈ S ↔ i < ws.length ∧ live ws i
def IsEnd (ws : List Int) (e : Int) (z : Int) : Prop :=
 (z = -1 ∧ ∀ i,i < ws.length → ¬ live ws i) ∨ ∃ i : Nat,z = (i : Int) ∧ i < ws.length ∧ live ws i ∧ ∀ j,j < ws.length → live ws j → if e = 0 then wkey ws i ≤ wkey ws j else wkey ws j ≤ wkey ws i
def encI (n : Nat) (i : Nat) : Value:=i64 ((i % n : Nat) : Int)
theorem zB0 (W : World) (v : Value) (hv : ∃ a n c,v = .slice a n c) : Calls Tryz.prog 78 #[v] W fun r w' => ∃ B,r = .returned (.func (.func 102) #[] #[.pointer (some ⟨B,0,none⟩)]) ∧ W.heap.size ≤ B ∧ w'.cell? ⟨B,0,none⟩ = some v ∧ Below W.heap.size W w':=by
 obtain ⟨a,n,c,rfl⟩:=hv
 go_enter Tryz.func78,Tryz.ntmps78
 go_wp2
 go_ret
 exact ⟨_,rfl,Nat.le_refl _,by go_simp,zAA (Below.refl _ _) _⟩
theorem zBt {W w : World} {enc : Nat → Value} {blk off m : Nat} {dk : Array Nat} {os : Array Obj} (h : Below W.heap.size W w) (hb : W.heap.size ≤ blk) : Below W.heap.size W (sortWorld enc w blk off m dk os):=by
 refine ⟨h.os,h.tape,h.output, ?_,fun k hk=>?_⟩
 ·unfold sortWorld
  rw [size_grow,size_putRow]
  exact Nat.le_trans h.size (Nat.le_add_right _ _)
 ·have hk2 : k < w.heap.size:=Nat.lt_of_lt_of_le hk h.size
  unfold sortWorld
  rw [heap_grow_old _ _ (by rw [size_putRow]; exact hk2)]
  unfold putRow mapBlock
  show ((Sort.ahead w m).heap.modify blk _)[k]? = _
  rw [Array.getElem?_modify,if_neg (by omega)]
  exact h.block k hk
theorem zCP {w : World} {enc : Nat → Value} {blk off m : Nat} {dk : Array Nat} {os : Array Obj} {a : Addr} {x : Value} (h : w.cell? a = some x) (hb : a.block ≠ blk) : (sortWorld enc w blk off m dk os).cell? a = some x:=by
 have hlt:=World.block_lt_of_cell? w a h
 unfold sortWorld
 rw [cell?_grow _ _ _ (by rw [size_putRow]; exact hlt),cell?_putRow_other _ _ _ _ _ _ (.inl hb)]
 exact h
theorem zDS (w : World) (ws : List Int) (hf : ∀ i,0 ≤ ws.getD i 0 ∧ ws.getD i 0 ≤ 18446744073709551615) (B b off n cap blk size : Nat) (h0 : 0 < n) (hn : n ≤ 1000000) (hB : w.cell? ⟨B,0,none⟩ = some (.slice (some ⟨b,off,none⟩) n cap)) (hc : ∀ i,i < n → w.cell? ⟨b,off + i,none⟩ = some (u64 (ws.getD i 0)))
  (n1 : B ≠ blk) (n2 : b ≠ blk) : CmpLays1 Tryz.prog 102 #[.pointer (some ⟨B,0,none⟩)] (encI n) (cfI ws n) blk 0 size w:=by
 intro m os dk _ i j
 have hi:=Nat.mod_lt i h0
 have hj:=Nat.mod_lt j h0
 refine (zDW _ B b off n cap (i % n) (j % n) (ws.getD (i % n) 0) (ws.getD (j % n) 0) hi hj hn ⟨zCP hB n1,zCP (hc _ hi) n2,zCP (hc _ hj) n2⟩ (hf _).1 (hf _).2 (hf _).1 (hf _).2).mono ?_
 rintro e w' ⟨rfl,hg⟩
 exact ⟨rfl,hg.grown⟩
theorem zBe {w : World} {base : Nat} {e : TypeId} {g k cap n : Nat} {S : List Nat} (h : w.ownsRow base e 1 (.slice (some ⟨g,0,none⟩) k cap) k (S.map (fun i : Nat=>i64 (i : Int)))) (hS : ∀ i ∈ S,i < n) : Holds (encI n) w g 0 S.toArray:=by
 have hl:=h.1
 rw [List.length_map,Nat.mul_one] at hl
 intro j hj
 rw [List.size_toArray] at hj
 refine ⟨?_,h.frozenAt _⟩
 rw [Nat.zero_add,h.cellAt j (by omega),List.getElem?_map,List.getElem?_eq_getElem hj]
 show some (i64 (S[j] : Int)) = some (encI n S.toArray[j]!)
 rw [getElem!_pos S.toArray j (by simpa using hj)]
 unfold encI
 rw [List.getElem_toArray,Nat.mod_eq_of_lt (hS _ (List.getElem_mem _))]
theorem zDk (d : Array Nat) (i : Nat) : d[i]! = d.toList.getD i 0:=by
 rw [List.getD_eq_getElem?_getD,Array.getElem?_toList]
 by_cases h : i < d.size
 ·rw [getElem!_pos d i h,Array.getElem?_eq_getElem h]
  rfl
 ·rw [getElem!_neg d i h,Array.getElem?_eq_none (by omega)]
  rfl
theorem zCN {ws : List Int} (hf : ∀ i,0 ≤ ws.getD i 0 ∧ ws.getD i 0 ≤ 18446744073709551615) (h0 : 0 < ws.length) (hn : ws.length ≤ 1000000) (d' : Array Nat)
  (hp : PermIn 0 (upto ws ws.length).toArray.size (upto ws ws.length).toArray d') (hs : SortedIn (ltOf (cfI ws ws.length)) 0 (upto ws ws.length).toArray.size d') : IsOrder ws d'.toList ∧ d'.toList.length = (upto ws ws.length).length:=by
 obtain ⟨h1,_,h3⟩:=hp
 have e1 : d'.extract 0 (upto ws ws.length).toArray.size = d':=by rw [← h1]; exact Array.extract_size
 have e2 : (upto ws ws.length).toArray.extract 0 (upto ws ws.length).toArray.size = (upto ws ws.length).toArray:=Array.extract_size
 rw [e1,e2] at h3
 have hperm : d'.toList.Perm (upto ws ws.length):=h3
 have hmem : ∀ i,i ∈ d'.toList ↔ i < ws.length ∧ live ws i:=fun i=>hperm.mem_iff.trans zAp
 have hnd : d'.toList.Nodup:=hperm.nodup_iff.2 (zCt _ _)
 refine ⟨⟨?_,hmem⟩,by rw [hperm.length_eq]⟩
 rw [List.pairwise_iff_getElem]
 intro i j hi hj hij
 have hj2 : j < d'.size:=by simpa using hj
 have hi2 : i < d'.size:=by simpa using hi
 have q:=hs i j (Nat.zero_le _) hij (by rw [← h1]; exact hj2)
 rw [getElem!_pos d' j hj2,getElem!_pos d' i hi2] at q
 have m1:=((hmem d'.toList[i]).1 (List.getElem_mem _)).1
 have m2:=((hmem d'.toList[j]).1 (List.getElem_mem _)).1
 rw [Array.getElem_toList] at m1 m2
 rw [ltI hf hn h0,Nat.mod_eq_of_lt m1,Nat.mod_eq_of_lt m2] at q
 have q2 : ¬ wkey ws d'[j] < wkey ws d'[i]:=of_decide_eq_false q
 rw [Array.getElem_toList,Array.getElem_toList]
 rcases Int.lt_trichotomy (wkey ws d'[i]) (wkey ws d'[j]) with h | h | h
 ·exact h
 ·have h4:=zHJ hf (by omega) (by omega) h
  have h5:=List.pairwise_iff_getElem.1 hnd i j hi hj hij
  rw [Array.getElem_toList,Array.getElem_toList] at h5
  exact absurd h4 h5
 ·exact absurd h q2
end
section
open Go.RowKit Go.Shelf Go.Lib Go.Sort
theorem zDM (f : Nat → Int) (better : Nat → Nat → Bool) (hb : ∀ x m,better x m = decide (f x < f m)) (d : Array Nat) : ∀ k, ∃ i,i ≤ k ∧ pickBy better d k = d[i]! ∧ ∀ j,j ≤ k → f d[i]! ≤ f d[j]!
  | 0 => ⟨0, Nat.le_refl _, rfl, fun j hj => by obtain rfl : j = 0 := by omega
                                                exact Int.le_refl _⟩
  | k + 1=>by
    obtain ⟨i,h1,h2,h3⟩:=zDM f better hb d k
    simp only [pickBy]
    rw [h2,hb]
    by_cases h : f d[k + 1]! < f d[i]!
    · rw [if_pos (by simpa using h)]
      refine ⟨k + 1,Nat.le_refl _,rfl,fun j hj=>?_⟩
      rcases Nat.lt_or_ge j (k + 1) with h4 | h4
      · have:=h3 j (by omega)
        omega
      · obtain rfl : j = k + 1:=by omega
        exact Int.le_refl _
    · rw [if_neg (by simpa using h)]
      refine ⟨i,by omega,rfl,fun j hj=>?_⟩
      rcases Nat.lt_or_ge j (k + 1) with h4 | h4
      · exact h3 j (by omega)
      · obtain rfl : j = k + 1:=by omega
        omega
theorem zCS {ws : List Int} (h0 : 0 < (upto ws ws.length).length) (f : Nat → Int) (better : Nat → Nat → Bool) (hb : ∀ x m,better x m = decide (f x < f m)) :
  ∃ i,pickBy better (upto ws ws.length).toArray ((upto ws ws.length).toArray.size - 1) = i ∧ i < ws.length ∧ live ws i ∧ ∀ j,j < ws.length → live ws j → f i ≤ f j:=by
 obtain ⟨i,h1,h2,h3⟩:=zDM f better hb (upto ws ws.length).toArray ((upto ws ws.length).toArray.size - 1)
 rw [List.size_toArray] at h1 h2 h3 ⊢
 have hi : i < (upto ws ws.length).length:=by omega
 have hv : (upto ws ws.length).toArray[i]! = (upto ws ws.length)[i]:=by rw [getElem!_pos _ i (by simpa using hi)]; rfl
 have hm : (upto ws ws.length)[i] ∈ upto ws ws.length:=List.getElem_mem _
 rw [zAp] at hm
 refine ⟨_,h2,by rw [hv]; exact hm.1,by rw [hv]; exact hm.2,fun j hj hl=>?_⟩
 obtain ⟨q,hq,rfl⟩:=List.getElem_of_mem (zAp.2 ⟨hj,hl⟩)
 have:=h3 q (by omega)
 rwa [getElem!_pos _ q (by simpa using hq)] at this
theorem at_any (W : World) (a : Option Addr) (cap : Nat) (ws : List Int) (e : Int) (he : e = 0 ∨ e = 1) (hW : IsWs W a ws) (hn : ws.length ≤ 1000000) :
  Calls Tryz.prog 156 #[.slice a ws.length cap,i64 e] W fun r w' => ∃ z : Int,r = .returned (i64 z) ∧ IsEnd ws e z ∧ Below W.heap.size W w':=by
 have HW:=zIn hW
 clear hW
 have eg : ∀ args w,(callFunc 102 args).run Tryz.prog w = .ok (.enter 102 args) w:=enters_of Tryz.func102 (by kernel_rfl) rfl
 have Heg:=zIn eg
 clear eg
 rcases Nat.eq_zero_or_pos (upto ws ws.length).length with h0 | h0
 ·have hnil:=List.eq_nil_of_length_eq_zero h0
  have HN:=zIn hnil
  clear hnil h0
  go_enter Tryz.func156,Tryz.ntmps156
  go_wp2_with fail
  refine (zCD _ a cap ws HW.out hn).mono ?_
  rintro r w1 ⟨v,rfl,hown,hb1⟩
  obtain ⟨A,cp,rfl⟩:=zAK hown
  have HB1:=zIn hb1
  clear hown hb1
  rw [HN.out]
  go_wp2_with fail
  go_ret
  exact ⟨-1,rfl,.inl ⟨rfl,fun i hi hl=>by have:=zAp.2 ⟨hi,hl⟩; rw [HN.out] at this; cases this⟩,HB1.out⟩
 ·have h0' : ((upto ws ws.length).length : Int) ≠ 0:=by omega
  have hlen : 0 < ws.length:=by have:=zA9 ws ws.length; omega
  have hk:=fun i j=>zGU HW.out.fit hn hlen i j
  obtain ⟨b,off,rfl,hc⟩:=HW.out.has hlen
  have HC:=zIn hc
  have H0:=zIn h0
  have Hlen:=zIn hlen
  have HK:=zIn hk
  have q0 : (((upto ws ws.length).length : Int) == 0) = false:=by simpa using h0'
  clear hc h0 hlen h0' hk
  rcases he with rfl | rfl
  ·have hP:=zCS H0.out (fun i=>wkey ws (i % ws.length)) (fun x m=>decide (cfI ws ws.length x m < 0)) (fun x m=>decide_eq_decide.2 (HK.out x m).1)
   have HP:=zIn hP
   clear hP
   go_enter Tryz.func156,Tryz.ntmps156
   go_wp2_with fail
   refine (zCD _ _ cap ws HW.out hn).mono ?_
   rintro r w1 ⟨v,rfl,hown,hb1⟩
   have HO:=zIn hown
   have HB1:=zIn hb1
   obtain ⟨A,cp,rfl⟩:=zAK hown
   clear hown hb1
   go_wp2_with fail
   refine (zB0 _ _ ⟨_,_,_,rfl⟩).mono ?_
   rintro r w2 ⟨B,rfl,hB,hBc,hb2⟩
   have HO2 : Hid (w2.ownsRow W.heap.size 3 1 (.slice A (upto ws ws.length).length cp) (upto ws ws.length).length ((upto ws ws.length).map (fun i : Nat=>i64 (i : Int)))) :=
    (zAx W.heap.size 3 1 _ _ _).keep w1 w2 (fun _=>False) HO.out (Keep.of_below hb2) (fun _ _ h=>h)
   have HB2:=zIn (zAE HB1.out hb2)
   obtain ⟨g,cp',hv,hcp,hg⟩:=zCW HO2.out H0.out
   cases hv
   have hgW : W.heap.size ≤ g:=(HO2.out.lt g rfl).1
   have hgw1 : g < w1.heap.size:=(HO.out.lt g rfl).2
   have hS:=Any.slices_MinFunc minL (encI ws.length) (fun _=>rfl) (cfI ws ws.length) 102 #[.pointer (some ⟨B,0,none⟩)] g 0 cp (upto ws ws.length).toArray w2 Heg.out
    (zDS w2 ws HW.out.fit B b off ws.length cap g _ Hlen.out hn hBc (fun i hi=>(zAL HB2.out _ (by rw [HC.out i hi]; rfl)).trans (HC.out i hi)) (by omega) (by have:=World.block_lt_of_cell? W ⟨b,off + 0,none⟩ (HC.out 0 Hlen.out); show b ≠ g; have h2 : b < W.heap.size:=this; omega))
    (zBe HO2.out (fun i hi=>(zAp.1 hi).1)) hg (by rw [List.size_toArray]; have:=zA9 ws ws.length; omega) (by rw [List.size_toArray]; exact H0.out)
   change Calls Tryz.prog 173 _ _ _ at hS
   obtain ⟨i,hi1,hi2,hi3,hi4⟩:=HP.out
   rw [hi1,List.size_toArray] at hS
   have HS:=zIn hS
   have HI : Hid (i % ws.length = i):=Nat.mod_eq_of_lt hi2
   have HE : Hid (IsEnd ws 0 (i : Int)):=.inr ⟨i,rfl,hi2,hi3,fun j hj hl=>by
    rw [if_pos rfl]
    have:=hi4 j hj hl
    rwa [HI.out,Nat.mod_eq_of_lt hj] at this⟩
   clear hS hB hBc hb2 hi1 hi2 hi3 hi4
   go_wp2_with fail
   refine HS.out.mono ?_
   rintro r w3 ⟨rfl,hsw⟩
   have HY : Hid (Below W.heap.size W w3):=by obtain ⟨nn,os,rfl⟩:=hsw; exact zBt HB2.out hgW
   clear hsw
   unfold encI
   rw [HI.out]
   go_wp2_with fail
   go_ret
   exact ⟨i,rfl,HE.out,HY.out⟩
  ·have hP:=zCS H0.out (fun i => -wkey ws (i % ws.length)) (fun x m=>decide (0 < cfI ws ws.length x m)) (fun x m=>decide_eq_decide.2 (by rw [(HK.out x m).2]; omega))
   have HP:=zIn hP
   clear hP
   go_enter Tryz.func156,Tryz.ntmps156
   go_wp2_with fail
   refine (zCD _ _ cap ws HW.out hn).mono ?_
   rintro r w1 ⟨v,rfl,hown,hb1⟩
   have HO:=zIn hown
   have HB1:=zIn hb1
   obtain ⟨A,cp,rfl⟩:=zAK hown
   clear hown hb1
   go_wp2_with fail
   refine (zB0 _ _ ⟨_,_,_,rfl⟩).mono ?_
   rintro r w2 ⟨B,rfl,hB,hBc,hb2⟩
   have HO2 : Hid (w2.ownsRow W.heap.size 3 1 (.slice A (upto ws ws.length).length cp) (upto ws ws.length).length ((upto ws ws.length).map (fun i : Nat=>i64 (i : Int)))) :=
    (zAx W.heap.size 3 1 _ _ _).keep w1 w2 (fun _=>False) HO.out (Keep.of_below hb2) (fun _ _ h=>h)
   have HB2:=zIn (zAE HB1.out hb2)
   obtain ⟨g,cp',hv,hcp,hg⟩:=zCW HO2.out H0.out
   cases hv
   have hgW : W.heap.size ≤ g:=(HO2.out.lt g rfl).1
   have hgw1 : g < w1.heap.size:=(HO.out.lt g rfl).2
   have hS:=Any.slices_MaxFunc maxL (encI ws.length) (fun _=>rfl) (cfI ws ws.length) 102 #[.pointer (some ⟨B,0,none⟩)] g 0 cp (upto ws ws.length).toArray w2 Heg.out
    (zDS w2 ws HW.out.fit B b off ws.length cap g _ Hlen.out hn hBc (fun i hi=>(zAL HB2.out _ (by rw [HC.out i hi]; rfl)).trans (HC.out i hi)) (by omega) (by have:=World.block_lt_of_cell? W ⟨b,off + 0,none⟩ (HC.out 0 Hlen.out); show b ≠ g; have h2 : b < W.heap.size:=this; omega))
    (zBe HO2.out (fun i hi=>(zAp.1 hi).1)) hg (by rw [List.size_toArray]; have:=zA9 ws ws.length; omega) (by rw [List.size_toArray]; exact H0.out)
   change Calls Tryz.prog 174 _ _ _ at hS
   obtain ⟨i,hi1,hi2,hi3,hi4⟩:=HP.out
   rw [hi1,List.size_toArray] at hS
   have HS:=zIn hS
   have HI : Hid (i % ws.length = i):=Nat.mod_eq_of_lt hi2
   have HE : Hid (IsEnd ws 1 (i : Int)):=.inr ⟨i,rfl,hi2,hi3,fun j hj hl=>by
    rw [if_neg (by decide)]
    have:=hi4 j hj hl
    rw [HI.out,Nat.mod_eq_of_lt hj] at this
    omega⟩
   clear hS hB hBc hb2 hi1 hi2 hi3 hi4
   go_wp2_with fail
   refine HS.out.mono ?_
   rintro r w3 ⟨rfl,hsw⟩
   have HY : Hid (Below W.heap.size W w3):=by obtain ⟨nn,os,rfl⟩:=hsw; exact zBt HB2.out hgW
   clear hsw
   unfold encI
   rw [HI.out]
   go_wp2_with fail
   go_ret
   exact ⟨i,rfl,HE.out,HY.out⟩
end
section
theorem fld1 (s e g lo hi : Int) (w : World) : (Instr.field 122 (wd s e g lo hi) 1).run Tryz.prog w = .ok (i64 e) w:=by
 simp [Instr.field,go_sem,asAgg]
theorem fld3 (s e g lo hi : Int) (w : World) : (Instr.field 122 (wd s e g lo hi) 3).run Tryz.prog w = .ok (st lo hi) w:=by
 simp [Instr.field,go_sem,asAgg,Tryz.isAgg73,Tryz.sizeOf73]
attribute [local go_sem ↓] fld0 fld1 fld3
end
section
attribute [local go_sem ↓] fld0 fld1 fld3
structure IsUpto (ws : List Int) (e : Nat) (S : List Nat) : Prop where
 rise : S.Pairwise (fun i j=>wkey ws i < wkey ws j)
 mem : ∀ i,i ∈ S ↔ i < e ∧ live ws i
theorem IsUpto.len {ws : List Int} {e : Nat} {S : List Nat} (h : IsUpto ws e S) : S.length ≤ e:=by
 have hnd : S.Nodup:=h.rise.imp (fun {a b} hab=>fun e=>by subst e; omega)
 have hp : S.Perm (upto ws e):=(List.perm_ext_iff_of_nodup hnd (zCt ws e)).2 (fun i=>(h.mem i).trans zAp.symm)
 rw [hp.length_eq]
 exact zA9 ws e
theorem zCn {w : World} {base : Nat} {e : TypeId} {g n cap : Nat} {ws : List Int} (h : w.ownsRow base e 1 (.slice (some ⟨g,0,none⟩) n cap) n (ws.map (Value.int .u64))) (hf : ∀ i,0 ≤ ws.getD i 0 ∧ ws.getD i 0 ≤ 18446744073709551615) : IsWs w (some ⟨g,0,none⟩) ws:=by
 have hl:=h.1
 rw [List.length_map] at hl
 exact ⟨fun _=>⟨g,0,rfl,fun i hi=>by rw [Nat.zero_add]; exact zEJ h (by omega)⟩,hf⟩
theorem IsOrder.len {ws : List Int} {S : List Nat} (h : IsOrder ws S) : S.length ≤ ws.length:=IsUpto.len ⟨h.rise,h.mem⟩
end
section
theorem zAo (ws : List Int) (k : Nat) (y : Int) {i : Nat} (h : i ≠ k) : (ws.set k y).getD i 0 = ws.getD i 0:=by
 rw [List.getD_eq_getElem?_getD,List.getElem?_set_ne (fun e=>h e.symm), ← List.getD_eq_getElem?_getD]
theorem zDc (ws : List Int) (k : Nat) (y : Int) (h : k < ws.length) : (ws.set k y).getD k 0 = y:=by
 rw [List.getD_eq_getElem?_getD,List.getElem?_set_self h]
 rfl
theorem zBj {ws : List Int} {S T : List Nat} {k : Nat} {y : Int} (h : IsOrder ws S) (hk : k < ws.length) (hy : y % 4 = 2) (hT : T.Sublist S) (hm : ∀ i,i ∈ T ↔ i ∈ S ∧ i ≠ k) : IsOrder (ws.set k y) T:=by
 refine ⟨?_,fun i=>?_⟩
 ·have h1:=h.rise.sublist hT
  refine List.Pairwise.imp_of_mem (fun {a b} ha hb hab=>?_) h1
  unfold wkey at hab ⊢
  rw [zAo _ _ _ ((hm a).1 ha).2,zAo _ _ _ ((hm b).1 hb).2]
  exact hab
 ·rw [hm i,h.mem i,List.length_set]
  constructor
  ·rintro ⟨⟨h1,h2⟩,h3⟩
   exact ⟨h1,by show (ws.set k y).getD i 0 % 4 = 1; rw [zAo _ _ _ h3]; exact h2⟩
  ·rintro ⟨h1,h2⟩
   have h2' : (ws.set k y).getD i 0 % 4 = 1:=h2
   by_cases h3 : i = k
   ·subst h3
    rw [zDc _ _ _ hk] at h2'
    omega
   ·rw [zAo _ _ _ h3] at h2'
    exact ⟨⟨h1,h2'⟩,h3⟩
theorem zGO {ws : List Int} {S : List Nat} {k : Nat} {y : Int} (h : IsOrder ws S) (hk : k < ws.length) (hl : live ws k) (hle : ∀ j,j < ws.length → live ws j → wkey ws k ≤ wkey ws j) (hy : y % 4 = 2) : ∃ T,S = k :: T ∧ IsOrder (ws.set k y) T:=by
 have hm:=(h.mem k).2 ⟨hk,hl⟩
 cases S with
 | nil=>cases hm
 | cons a T =>
  have hp:=List.pairwise_cons.1 h.rise
  have ha:=(h.mem a).1 List.mem_cons_self
  have hak : a = k:=by
   rcases List.mem_cons.1 hm with e | hT
   ·exact e.symm
   ·have h1:=hp.1 k hT
    have h2:=hle a ha.1 ha.2
    omega
  subst hak
  refine ⟨T,rfl,zBj h hk hy (List.sublist_cons_self _ _) (fun i=>?_)⟩
  constructor
  ·intro hi
   refine ⟨List.mem_cons_of_mem _ hi,fun e=>?_⟩
   subst e
   have:=hp.1 i hi
   omega
  ·rintro ⟨h1,h2⟩
   rcases List.mem_cons.1 h1 with e | h3
   ·exact absurd e h2
   ·exact h3
theorem zFE {ws : List Int} {S : List Nat} {k : Nat} {y : Int} (h : IsOrder ws S) (hk : k < ws.length) (hl : live ws k) (hle : ∀ j,j < ws.length → live ws j → wkey ws j ≤ wkey ws k) (hy : y % 4 = 2) : ∃ T,S = T ++ [k] ∧ IsOrder (ws.set k y) T:=by
 have hm:=(h.mem k).2 ⟨hk,hl⟩
 have hne : S ≠ []:=fun e=>by rw [e] at hm; cases hm
 obtain ⟨T,a,rfl⟩ : ∃ T a,S = T ++ [a]:=⟨S.dropLast,S.getLast hne,(List.dropLast_concat_getLast hne).symm⟩
 have hp:=List.pairwise_append.1 h.rise
 have ha:=(h.mem a).1 (by simp)
 have hak : a = k:=by
  rcases List.mem_append.1 hm with hT | e
  ·have h1:=hp.2.2 k hT a (by simp)
   have h2:=hle a ha.1 ha.2
   omega
  ·exact (List.mem_singleton.1 e).symm
 subst hak
 refine ⟨T,rfl,zBj h hk hy (List.sublist_append_left _ _) (fun i=>?_)⟩
 constructor
 ·intro hi
  refine ⟨List.mem_append_left _ hi,fun e=>?_⟩
  subst e
  have:=hp.2.2 i hi i (by simp)
  omega
 ·rintro ⟨h1,h2⟩
  rcases List.mem_append.1 h1 with h3 | h3
  ·exact h3
  ·exact absurd (by simpa using h3) h2
def lessS (e : Int) (S : List Nat) : List Nat:=if e = 0 then S.tail else S.dropLast
theorem zFh {ws : List Int} {S : List Nat} {e y : Int} {j : Nat} (h : IsOrder ws S) (hz : IsEnd ws e j) (hy : y % 4 = 2) :
  IsOrder (ws.set j y) (lessS e S) ∧ S.length = (lessS e S).length + 1 ∧ (e = 0 → S = j :: lessS e S) ∧ (e ≠ 0 → S = lessS e S ++ [j]):=by
 rcases hz with ⟨h1,_⟩ | ⟨i,h1,h2,h3,h4⟩
 ·omega
 ·obtain rfl : j = i:=by omega
  unfold lessS
  by_cases he : e = 0
  ·rw [if_pos he]
   obtain ⟨T,rfl,hT⟩:=zGO h h2 h3 (fun q a b=>by have:=h4 q a b; rwa [if_pos he] at this) hy
   exact ⟨hT,rfl,fun _=>rfl,fun h=>absurd he h⟩
  ·rw [if_neg he]
   obtain ⟨T,rfl,hT⟩:=zFE h h2 h3 (fun q a b=>by have:=h4 q a b; rwa [if_neg he] at this) hy
   rw [List.dropLast_concat]
   exact ⟨hT,by simp,fun h=>absurd h he,fun _=>rfl⟩
end
end
end Go.Proofs.YtebgjfhaolgcjaaGreat
