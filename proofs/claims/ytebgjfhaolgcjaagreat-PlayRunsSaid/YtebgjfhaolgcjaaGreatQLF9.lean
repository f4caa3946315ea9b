/- Contracts and plain lemmas that these laws need. No condition. -/
import Derived.Deep.CutBlock
import Derived.Deep.DeepCutAuto
import Derived.Test.YtebgjfhaolgcjaaGreatQLF1
import Derived.Test.YtebgjfhaolgcjaaGreatQLF6
import Derived.Test.YtebgjfhaolgcjaaGreatQLF7
import Derived.Test.YtebgjfhaolgcjaaGreatQLF8
namespace Go.Proofs.YtebgjfhaolgcjaaGreat
set_option linter.unusedVariables false
set_option maxHeartbeats 8000000
set_option maxRecDepth 100000
section
open Go.RowKit
def IsAt (w : World) (A : Option Addr) (xs : List Value) : Prop :=
 0 < xs.length → ∃ b off,A = some ⟨b,off,none⟩ ∧ b < w.heap.size ∧ ∀ j u,xs[j]? = some u → w.cell? ⟨b,off + j,none⟩ = some u
section
variable {w w' : World} {A : Option Addr} {xs ys : List Value}
theorem IsAt.later (h : IsAt w A xs) (e : Below w.heap.size w w') : IsAt w' A xs:=fun hp=>by
 obtain ⟨b,off,h1,h2,h3⟩:=h hp
 exact ⟨b,off,h1,Nat.lt_of_lt_of_le h2 e.size,fun j u hj=>(e.cell (p:=⟨b,off + j,none⟩) h2).trans (h3 j u hj)⟩
theorem IsAt.own {base : Nat} {e : TypeId} {sz n cap : Nat} (h : w.ownsRow base e sz (.slice A n cap) n xs) : IsAt w A xs:=fun hp=>by
 rcases h.2 with ⟨hv,h0⟩ | ⟨g,cap',cur,hv,hb,hh,hc,_⟩
 ·have:=h.1
  rw [h0,Nat.zero_mul] at this
  omega
 ·cases hv
  refine ⟨g,0,rfl,(h.lt g rfl).2,fun j u hj=>?_⟩
  rw [Nat.zero_add,h.cellAt j (by have:=(List.getElem?_eq_some_iff.1 hj).1; have:=h.1; omega)]
  exact hj
end
def flatM : List CM → List Value
 | []=>[]
 | m :: l=>m.list ++ flatM l
theorem zAU : ∀ a b : List CM,flatM (a ++ b) = flatM a ++ flatM b
 | [],_=>rfl
 | m :: a,b=>by simp [flatM,zAU a b]
theorem zBv : ∀ l : List CM,(flatM l).length = l.length * 7
 | []=>rfl
 | m :: l=>by simp only [flatM,List.length_append,List.length_cons,zBv l,CM.list,List.length_nil]; omega
theorem CM.one (m : CM) (u : Value) (h : u ∈ m.list) : u.oneCell' = true:=by
 simp only [CM.list,List.mem_cons,List.not_mem_nil,or_false] at h
 rcases h with rfl | rfl | rfl | rfl | rfl | rfl | rfl <;> rfl
theorem zEC : ∀ {l : List CM} {i j : Nat} {m : CM},l[i]? = some m → j < 7 → (flatM l)[i * 7 + j]? = m.list[j]?
 | [],i,j,m,h,hj=>by simp at h
 | e :: l,0,j,m,h,hj=>by
  cases h
  rw [flatM,Nat.zero_mul,Nat.zero_add,List.getElem?_append_left (by exact hj)]
 | e :: l,i + 1,j,m,h,hj=>by
  rw [List.getElem?_cons_succ] at h
  rw [flatM,List.getElem?_append_right (by show 7 ≤ _; omega),show (i + 1) * 7 + j - e.list.length = i * 7 + j by show (i + 1) * 7 + j - 7 = _; omega]
  exact zEC h hj
theorem zBM : ElemAt Tryz.prog 27 39 (.agg #[.int .i64 0,.int .i64 0,.int .i64 0,.int .i64 0,.int .u64 0,.int .i64 0,.int .i64 0]) 7 56 :=
 ElemAt.mk' Tryz.underlying27 (by kernel_rfl) rfl (by decide)
structure AtCM (w : World) (b o : Nat) (m : CM) : Prop where
 c0 : w.cell? ⟨b,o,none⟩ = some (i64 m.k)
 c1 : w.cell? ⟨b,o + 1,none⟩ = some (i64 m.who)
 c2 : w.cell? ⟨b,o + 2,none⟩ = some (i64 m.ck)
 c3 : w.cell? ⟨b,o + 3,none⟩ = some (i64 m.ce)
 c4 : w.cell? ⟨b,o + 4,none⟩ = some (u64 m.v)
 c5 : w.cell? ⟨b,o + 5,none⟩ = some (i64 m.st)
 c6 : w.cell? ⟨b,o + 6,none⟩ = some (i64 m.n)
theorem IsAt.move {w : World} {A : Option Addr} {ms : List CM} (h : IsAt w A (flatM ms)) {i : Nat} {m : CM} (hi : ms[i]? = some m) : ∃ b off,A = some ⟨b,off,none⟩ ∧ b < w.heap.size ∧ AtCM w b (off + i * 7) m:=by
 have hil:=(List.getElem?_eq_some_iff.1 hi).1
 obtain ⟨b,off,h1,h2,h3⟩:=h (by rw [zBv]; omega)
 have key : ∀ j u,j < 7 → m.list[j]? = some u → w.cell? ⟨b,off + i * 7 + j,none⟩ = some u:=fun j u hj hu=>by
  have:=h3 (i * 7 + j) u (by rw [zEC hi hj]; exact hu)
  rw [← Nat.add_assoc] at this
  exact this
 exact ⟨b,off,h1,h2,key 0 _ (by decide) rfl,key 1 _ (by decide) rfl,key 2 _ (by decide) rfl,key 3 _ (by decide) rfl,key 4 _ (by decide) rfl,key 5 _ (by decide) rfl,key 6 _ (by decide) rfl⟩
theorem zA6 (t s so d : Int) (b : Bool) (hb : rightC t s so d = b) (w : World) :
  Calls Tryz.prog 12 #[cf t s so d] w fun r w'=>r = .returned (.bool b) ∧ Below w.heap.size w w':=hb ▸ zAi t s so d w
inductive EncIs (w' : World) (base : Nat) (t s so d : Int) (ms : List CM) : Value → Int → Prop
 | conf (h : rightC t s so d = false) : EncIs w' base t s so d ms (.slice none 0 0) 1
 | many (h : rightC t s so d = true) (hn : 65536 < ms.length) : EncIs w' base t s so d ms (.slice none 0 0) 7
 | arg (h : rightC t s so d = true) (hn : ms.length ≤ 65536) (hm : ∃ m ∈ ms,¬ m.Right) : EncIs w' base t s so d ms (.slice none 0 0) 1
 | ok (h : rightC t s so d = true) (hn : ms.length ≤ 65536) (hm : ∀ m ∈ ms,m.Right) (v : Value) (ho : Own8 w' base v ([t,s,so,d] ++ encs ms)) : EncIs w' base t s so d ms v 0
theorem zFi (w : World) (base : Nat) (L : List Int) (hb : base ≤ w.heap.size) (hL : L.length ≤ maxLen) : Own8 (w.alloc (.cells (L.map u8).toArray 5)) base (.slice (some ⟨w.heap.size,0,none⟩) L.length L.length) L :=
 ⟨by rw [List.length_map]; omega,.inr ⟨w.heap.size,L.length,(L.map u8).toArray,rfl,hb,heap_alloc_new w _,Nat.le_refl _,hL,by simp,by
  rw [Nat.mul_one]
  exact List.take_of_length_le (by simp)⟩⟩
theorem zCX (t s so d : Int) (A : Option Addr) (cap : Nat) (ms : List CM) (w : World) (h : IsAt w A (flatM ms)) (hf : ∀ m ∈ ms,m.Fit) (hn : ms.length ≤ 70000) :
  Calls Tryz.prog 16 #[.agg #[.int .i64 t,.int .i64 s,.int .i64 so,.int .i64 d,.slice A ms.length cap]] w fun r w' => ∃ v e,r = .returned (.tuple #[v,i64 e]) ∧ Below w.heap.size w w' ∧ EncIs w' w.heap.size t s so d ms v e:=by
 have HB0:=zHe (zAA (zAA (Below.refl w.heap.size w) (.cells #[.int .i64 t,.int .i64 s,.int .i64 so,.int .i64 d,.slice A ms.length cap] 29)) (.cells #[.int .i64 t,.int .i64 s,.int .i64 so,.int .i64 d] 24))
 have H:=zHe h
 have HF:=zHe hf
 clear h hf
 rcases Bool.eq_false_or_eq_true (rightC t s so d) with hr | hr
 case inr =>
  have HR:=zHe hr
  clear hr
  go_enter Tryz.func16,Tryz.ntmps16
  go_wp2_with fail
  refine (zA6 t s so d false HR.out _).mono ?_
  rintro r w2 ⟨rfl,hb⟩
  have HB:=zHe (zAB HB0.out hb)
  clear HB0 hb
  go_wp2_with fail
  go_ret2
  exact ⟨_,_,rfl,HB.out,.conf HR.out⟩
 have HR:=zHe hr
 have HX:=zHe (of_decide_eq_true hr)
 clear hr
 have HAC:=zHe (IsObj.made (w.alloc (.cells #[.int .i64 t,.int .i64 s,.int .i64 so,.int .i64 d,.slice A ms.length cap] 29)) [.int .i64 t,.int .i64 s,.int .i64 so,.int .i64 d] 24)
 have HOB:=zHe ((IsObj.made w [.int .i64 t,.int .i64 s,.int .i64 so,.int .i64 d,.slice A ms.length cap] 29).later (zAA (Below.refl _ _) (.cells #[.int .i64 t,.int .i64 s,.int .i64 so,.int .i64 d] 24)))
 have hcb : (w.alloc (.cells #[.int .i64 t,.int .i64 s,.int .i64 so,.int .i64 d,.slice A ms.length cap] 29)).heap.size = w.heap.size + 1:=by simp
 rw [hcb] at HAC
 clear hcb
 rcases Nat.lt_or_ge 65536 ms.length with hbig | hsm
 ·have hbig' : (65536 : Int) < (ms.length : Int):=by omega
  go_enter Tryz.func16,Tryz.ntmps16
  go_wp2_with fail
  refine (zA6 t s so d true HR.out _).mono ?_
  rintro r w2 ⟨rfl,hb⟩
  have HB:=zHe (zAB HB0.out hb)
  have HO:=zHe (HOB.out.later hb)
  clear HB0 hb HAC HOB
  have c4:=HO.out.at' 4 _ rfl
  go_wp2_with fail
  go_ret2
  exact ⟨_,_,rfl,HB.out,.many HR.out hbig⟩
 have hsm' : ¬ (65536 : Int) < (ms.length : Int):=by omega
 go_enter Tryz.func16,Tryz.ntmps16
 go_wp2_with fail
 refine (zA6 t s so d true HR.out _).mono ?_
 rintro r w2 ⟨rfl,hb⟩
 have HB:=zHe (zAB HB0.out hb)
 have HO:=zHe (HOB.out.later hb)
 have HA:=zHe (HAC.out.later hb)
 clear HB0 hb HAC HOB
 have c4:=HO.out.at' 4 _ rfl
 have d0:=HA.out.at' 0 _ rfl
 have d1:=HA.out.at' 1 _ rfl
 have d2:=HA.out.at' 2 _ rfl
 have d3:=HA.out.at' 3 _ rfl
 have e4:=HO.out.lt
 have HX1:=HX.out
 have HR0:=zHe (zFi w2 w.heap.size [t,s,so,d] HB.out.size (by show 4 ≤ maxLen; unfold maxLen; decide))
 have hm1 : IntKind.u8.wrap t = t:=by rw [IntKind.wrap_u8]; omega
 have hm2 : IntKind.u8.wrap s = s:=by rw [IntKind.wrap_u8]; omega
 have hm3 : IntKind.u8.wrap so = so:=by rw [IntKind.wrap_u8]; omega
 have hm4 : IntKind.u8.wrap d = d:=by rw [IntKind.wrap_u8]; omega
 have HM:=zHe (show (w2.alloc (.cells #[.int .u8 (t % 256),.int .u8 (s % 256),.int .u8 (so % 256),.int .u8 (d % 256)] 5)) = w2.alloc (.cells ([t,s,so,d].map u8).toArray 5) by
  rw [show t % 256 = t by omega,show s % 256 = s by omega,show so % 256 = so by omega,show d % 256 = d by omega]; rfl)
 have HBn:=zHe (zAA HB.out (.cells ([t,s,so,d].map u8).toArray 5))
 clear hm1 hm2 hm3 hm4 HX1
 go_wp2_with fail
 rw [HM.out]
 generalize w2.alloc (.cells ([t,s,so,d].map u8).toArray 5) = w3 at HR0 HBn ⊢
 clear HM HB HO HA c4 d0 d1 d2 d3 e4
 go_loopw [5,33] (fun bv iv wr => ∃ (i : Nat) (A1 : Option Addr) (cp1 : Nat),i ≤ ms.length ∧ bv = .slice A1 (4 + (encs (ms.take i)).length) cp1 ∧ iv = .int .i64 i ∧ Hid (∀ m ∈ ms.take i,m.Right) ∧ Hid (Below w.heap.size w wr) ∧ Hid (wr.ownsRow w.heap.size 5 1 (.slice A1 (4 + (encs (ms.take i)).length) cp1) (4 + (encs (ms.take i)).length) (([t,s,so,d] ++ encs (ms.take i)).map u8))) (fun _ iv _=>ms.length - (RowKit.intOf iv).toNat)
 case atStart=>exact ⟨0,_,_,Nat.zero_le _,rfl,rfl,zHe (fun m hm=>by cases hm),HBn,HR0⟩
 case round =>
  clear HR0 HBn
  obtain ⟨i,A1,cp1,hi,rfl,rfl,HRI,HBI,HOI⟩:=hrel
  rcases Nat.lt_or_ge i ms.length with hin | hin
  ·have hin' : (i : Int) < (ms.length : Int):=by omega
   obtain ⟨m,hm⟩ : ∃ m,ms[i]? = some m:=⟨_,List.getElem?_eq_getElem hin⟩
   obtain ⟨b,off,rfl,hbl,hat⟩:=H.out.move hm
   have hfit:=HF.out m (List.mem_of_getElem? hm)
   have k : ∀ q,wr.cell? ⟨b,q,none⟩ = w.cell? ⟨b,q,none⟩:=fun q=>HBI.out.cell (p:=⟨b,q,none⟩) hbl
   have c0:=(k _).trans hat.c0
   have c1:=(k _).trans hat.c1
   have c2:=(k _).trans hat.c2
   have c3:=(k _).trans hat.c3
   have c4:=(k _).trans hat.c4
   have c5:=(k _).trans hat.c5
   have c6:=(k _).trans hat.c6
   have htk : ms.take (i + 1) = ms.take i ++ [m]:=by rw [List.take_add_one,hm]; rfl
   have HTK:=zHe htk
   have HFI:=zHe hfit
   have HMI:=zHe (List.mem_of_getElem? hm)
   have hle:=zBc (ms.take i)
   rw [List.length_take] at hle
   have HMB:=zHe (IsObj.made wr m.list 39)
   have hbn:=zAA (Below.refl wr.heap.size wr) (m.obj 39)
   have HBJ:=zHe (zAB HBI.out hbn)
   have HOJ:=zHe ((Keep.of_below (T:=fun _=>False) hbn).row HOI.out (fun _ _ h=>h))
   have hlt : wr.heap.size < (wr.alloc (m.obj 39)).heap.size:=by simp
   have HLT:=zHe hlt
   have HNB:=zHe (show ∀ q,(Value.slice A1 (4 + (encs (ms.take i)).length) cp1).ownBlock = some q → q ≠ wr.heap.size from fun q hq=>by have:=(HOI.out.lt q hq).2; omega)
   clear k hat hbn hlt hm htk hfit
   generalize hen : 4 + (encs (ms.take i)).length = q at *
   go_wp2_with fail
   refine (zBp m _).mono ?_
   rintro r w4 ⟨rfl,hb4⟩
   have HB4:=zHe (zAB HBJ.out hb4)
   have HM4:=zHe (HMB.out.later hb4)
   have HO4:=zHe ((Keep.of_below (T:=fun _=>False) hb4).row HOJ.out (fun _ _ h=>h))
   have HLT4:=zHe (Nat.lt_of_lt_of_le HLT.out hb4.size)
   clear hb4 HBJ HMB HOJ HLT c0 c1 c2 c3 c4 c5 c6
   by_cases hmr : m.Right
   case neg =>
    have HNR:=zHe hmr
    rw [decide_eq_false hmr]
    clear hmr
    go_wp2_with fail
    go_ret2
    exact ⟨_,_,rfl,HB4.out,.arg HR.out (by omega) ⟨m,HMI.out,HNR.out⟩⟩
   case pos =>
    have HGD:=zHe (show m.Good from ⟨hmr,HFI.out⟩)
    rw [decide_eq_true hmr]
    clear hmr
    have c0:=HM4.out.at' 0 _ rfl
    have c1:=HM4.out.at' 1 _ rfl
    have c2:=HM4.out.at' 2 _ rfl
    have c3:=HM4.out.at' 3 _ rfl
    have c4:=HM4.out.at' 4 _ rfl
    have c5:=HM4.out.at' 5 _ rfl
    have c6:=HM4.out.at' 6 _ rfl
    go_wp2_with fail
    have hwr:=zF0 w.heap.size (.slice A1 q cp1) ([t,s,so,d] ++ encs (ms.take i)) m w4 (by have h:=HO4.out; rw [Own8,show ([t,s,so,d] ++ encs (ms.take i)).length = q by rw [← hen]; simp; omega]; exact h) HGD.out (by simp; omega) HB4.out.size
    have HWR:=zHe hwr
    clear hwr c0 c1 c2 c3 c4 c5 c6
    refine HWR.out.mono ?_
    rintro r w5 ⟨v5,rfl,hw5⟩
    have hlq : (([t,s,so,d] ++ encs (ms.take i)) ++ m.enc).length = 4 + (encs (ms.take (i + 1))).length:=by rw [HTK.out,zBe]; simp; omega
    have h5:=hw5.at' hlq
    obtain ⟨A2,cp2,rfl⟩:=zAK h5
    have HB5:=zHe (zAj HB4.out hw5.keep HB4.out.size (fun q hq=>(HO4.out.lt q hq).1))
    have HO5 : Hid (w5.ownsRow w.heap.size 5 1 (.slice A2 (4 + (encs (ms.take (i + 1))).length) cp2) (4 + (encs (ms.take (i + 1))).length) (([t,s,so,d] ++ encs (ms.take (i + 1))).map u8)):=zHe (by have h6:=h5; rw [List.append_assoc, ← zBe, ← HTK.out] at h6; exact h6)
    have HR5 : Hid (∀ m ∈ ms.take (i + 1),m.Right):=zHe (fun x hx=>by
     rw [HTK.out] at hx
     rcases List.mem_append.1 hx with hx | hx
     ·exact HRI.out x hx
     ·rw [List.mem_singleton.1 hx]
      exact HGD.out.1)
    clear hw5 h5 hlq HWR HB4 HM4 HO4 HRI
    go_wp2_with fail
    go_roundw
    case rel=>exact ⟨i + 1,A2,cp2,by omega,rfl,by go_num,HR5,HB5,HO5⟩
    case measure=>first | omega | (simp [RowKit.intOf]; done) | (simp [RowKit.intOf]; omega)
  ·obtain rfl : i = ms.length:=by omega
   have hnn : ¬ (ms.length : Int) < (ms.length : Int):=by omega
   have hO:=HOI.out
   have hRR:=HRI.out
   rw [List.take_length] at hO hRR
   have HOF:=zHe hO
   have HRF:=zHe hRR
   have hlen : (encs (ms.take ms.length)).length = (encs ms).length:=by rw [List.take_length]
   rw [hlen]
   clear hO hRR HOI HRI hlen
   go_wp2_with fail
   go_ret2
   exact ⟨_,_,rfl,HBI.out,.ok HR.out (by omega) HRF.out _ (by
    have h:=HOF.out
    rw [Own8,show ([t,s,so,d] ++ encs ms).length = 4 + (encs ms).length by simp; omega]
    exact h)⟩
end
section
open Go.RowKit
def rdCall : List Int → Option (Int × Int × Int × Int × Nat)
 | []=>none
 | how :: r=>if how % 2 = 0 then (if 8 ≤ r.length then some (how % 2,how / 2,un8 (r.take 8),0,9) else none) else match r with
  | []=>none
  | s :: _=>some (how % 2,how / 2,0,s,2)
def rdMove : List Int → Option (CM × Nat)
 | []=>none
 | k :: r=>if k = 0 then (match r with
   | []=>none
   | who :: r2=>match rdCall r2 with
    | none=>none
    | some (ck,ce,v,s,n)=>some (⟨0,who,ck,ce,v,s,0⟩,n + 2))
  else if k = 1 then (match r with
   | []=>none
   | who :: _=>some (⟨1,who,0,0,0,0,0⟩,2))
  else if k = 2 then (if 2 ≤ r.length then some (⟨2,0,0,0,0,0,un8 (r.take 2)⟩,3) else none)
  else some (⟨k,0,0,0,0,0,0⟩,1)
theorem zEE {l : List Int} {n : Nat} (hl : ∀ b ∈ l,0 ≤ b ∧ b ≤ 255) (h : n ≤ l.length) : le8 n (un8 (l.take n)) ++ l.drop n = l:=by
 have h1:=zFr (l.take n) (fun b hb=>hl b (List.mem_of_mem_take hb))
 rw [List.length_take,Nat.min_eq_left h] at h1
 rw [h1,List.take_append_drop]
theorem zEh {l : List Int} (hl : ∀ b ∈ l,0 ≤ b ∧ b ≤ 255) {ck ce v s : Int} {n : Nat} (h : rdCall l = some (ck,ce,v,s,n)) :
  ∃ r,l = ((ck + 2 * ce) :: (if ck = 0 then le8 8 v else [s])) ++ r ∧ n = ((ck + 2 * ce) :: (if ck = 0 then le8 8 v else [s])).length ∧ 0 ≤ v ∧ v ≤ 18446744073709551615 ∧ (ck = 0 → s = 0) ∧ (ck ≠ 0 → v = 0 ∧ ck = 1 ∧ 0 ≤ s ∧ s ≤ 255):=by
 cases l with
 | nil=>cases h
 | cons how r =>
  have hb:=hl how List.mem_cons_self
  have hr : ∀ b ∈ r,0 ≤ b ∧ b ≤ 255:=fun b hb=>hl b (List.mem_cons_of_mem _ hb)
  unfold rdCall at h
  dsimp only at h
  by_cases h0 : how % 2 = 0
  ·rw [if_pos h0] at h
   by_cases h8 : 8 ≤ r.length
   ·rw [if_pos h8] at h
    simp only [Option.some.injEq,Prod.mk.injEq] at h
    obtain ⟨rfl,rfl,rfl,rfl,rfl⟩:=h
    have hf:=zDr (r.take 8) (fun b hb=>hr b (List.mem_of_mem_take hb))
    rw [List.length_take,Nat.min_eq_left h8] at hf
    have h256 : (256 : Int) ^ 8 = 18446744073709551616:=by decide
    refine ⟨r.drop 8, ?_, ?_,by omega,by omega,fun _=>rfl,fun hn=>absurd h0 hn⟩
    ·rw [if_pos h0,List.cons_append,zEE hr h8]
     congr 1
     omega
    ·rw [if_pos h0,List.length_cons,zAn]
   ·rw [if_neg h8] at h
    cases h
  ·rw [if_neg h0] at h
   cases r with
   | nil=>cases h
   | cons s' r' =>
    simp only [Option.some.injEq,Prod.mk.injEq] at h
    obtain ⟨rfl,rfl,rfl,rfl,rfl⟩:=h
    have hs:=hr s' List.mem_cons_self
    refine ⟨r', ?_, ?_,by omega,by omega,fun hn=>absurd hn h0,fun _=>⟨rfl,by omega,hs.1,hs.2⟩⟩
    ·rw [if_neg h0,List.cons_append,List.cons_append,List.nil_append]
     congr 1
     omega
    ·rw [if_neg h0]
     rfl
theorem zEg {l : List Int} (hl : ∀ b ∈ l,0 ≤ b ∧ b ≤ 255) {m : CM} {n : Nat} (h : rdMove l = some (m,n)) (hm : m.Right) : m.Good ∧ ∃ r,l = m.enc ++ r ∧ n = m.enc.length:=by
 cases l with
 | nil=>cases h
 | cons k r =>
  have hr : ∀ b ∈ r,0 ≤ b ∧ b ≤ 255:=fun b hb=>hl b (List.mem_cons_of_mem _ hb)
  unfold rdMove at h
  dsimp only at h
  by_cases k0 : k = 0
  ·rw [if_pos k0] at h
   cases r with
   | nil=>cases h
   | cons who r2 =>
    simp only at h
    cases hc : rdCall r2 with
    | none =>
     rw [hc] at h
     cases h
    | some x =>
     obtain ⟨ck,ce,v,s,q⟩:=x
     rw [hc] at h
     simp only [Option.some.injEq,Prod.mk.injEq] at h
     obtain ⟨rfl,rfl⟩:=h
     obtain ⟨r',h1,h2,h3,h4,_⟩:=zEh (fun b hb=>hr b (List.mem_cons_of_mem _ hb)) hc
     refine ⟨⟨hm,h3,h4⟩,r', ?_, ?_⟩
     ·unfold CM.enc
      simp only
      rw [if_neg (by decide),if_neg (by decide),h1,k0]
      rfl
     ·unfold CM.enc
      simp only
      rw [if_neg (by decide),if_neg (by decide),h2]
      rfl
  ·rw [if_neg k0] at h
   by_cases k1 : k = 1
   ·rw [if_pos k1] at h
    cases r with
    | nil=>cases h
    | cons who r2 =>
     simp only [Option.some.injEq,Prod.mk.injEq] at h
     obtain ⟨rfl,rfl⟩:=h
     refine ⟨⟨hm,by show (0 : Int) ≤ 0; decide,by show (0 : Int) ≤ _; decide⟩,r2, ?_, ?_⟩
     ·rw [k1]
      rfl
     ·rfl
   ·rw [if_neg k1] at h
    by_cases k2 : k = 2
    ·rw [if_pos k2] at h
     by_cases h2 : 2 ≤ r.length
     ·rw [if_pos h2] at h
      simp only [Option.some.injEq,Prod.mk.injEq] at h
      obtain ⟨rfl,rfl⟩:=h
      refine ⟨⟨hm,by show (0 : Int) ≤ 0; decide,by show (0 : Int) ≤ _; decide⟩,r.drop 2, ?_, ?_⟩
      ·show k :: r = (2 :: le8 2 (un8 (r.take 2))) ++ r.drop 2
       rw [List.cons_append,zEE hr h2,k2]
      ·show 3 = (2 :: le8 2 (un8 (r.take 2))).length
       rw [List.length_cons,zAn]
     ·rw [if_neg h2] at h
      cases h
    ·rw [if_neg k2] at h
     simp only [Option.some.injEq,Prod.mk.injEq] at h
     obtain ⟨rfl,rfl⟩:=h
     rcases hm with hm | hm | hm
     ·exact absurd hm.1 k0
     ·exact absurd hm.1 k1
     ·exact absurd hm.1 k2
theorem zCh {m : CM} (hm : m.Good) (r : List Int) : rdMove (m.enc ++ r) = some (m,m.enc.length):=by
 obtain ⟨k,who,ck,ce,v,s,n⟩:=m
 obtain ⟨hr,v0,v1⟩:=hm
 simp only at v0 v1
 unfold CM.Right CM.beg CM.stp CM.pas at hr
 simp only at hr
 unfold CM.enc
 simp only
 by_cases k1 : k = 1
 ·rw [if_pos k1]
  show some ((⟨1,who,0,0,0,0,0⟩ : CM),2) = some ((⟨k,who,ck,ce,v,s,n⟩ : CM),2)
  rw [Option.some.injEq,Prod.mk.injEq,CM.mk.injEq]
  omega
 ·rw [if_neg k1]
  by_cases k2 : k = 2
  ·rw [if_pos k2,List.cons_append]
   show (if 2 ≤ (le8 2 n ++ r).length then some ((⟨2,0,0,0,0,0,un8 ((le8 2 n ++ r).take 2)⟩ : CM),3) else none) = _
   have hlen : (le8 2 n).length = 2:=zAn 2 n
   have ht : (le8 2 n ++ r).take 2 = le8 2 n:=by rw [List.take_append_of_le_length (by omega),List.take_of_length_le (by omega)]
   have h256 : (256 : Int) ^ 2 = 65536:=by decide
   rw [if_pos (by rw [List.length_append]; omega),ht,zCG 2 n (by omega) (by omega),List.length_cons,hlen,Option.some.injEq,Prod.mk.injEq,CM.mk.injEq]
   omega
  ·rw [if_neg k2]
   have k0 : k = 0:=by omega
   subst k0
   by_cases c0 : ck = 0
   ·rw [if_pos c0]
    have hlen : (le8 8 v).length = 8:=zAn 8 v
    have ht : (le8 8 v ++ r).take 8 = le8 8 v:=by rw [List.take_append_of_le_length (by omega),List.take_of_length_le (by omega)]
    have h256 : (256 : Int) ^ 8 = 18446744073709551616:=by decide
    have hc : rdCall ((ck + 2 * ce) :: (le8 8 v ++ r)) = some ((ck + 2 * ce) % 2,(ck + 2 * ce) / 2,v,0,9):=by
     unfold rdCall
     dsimp only
     rw [if_pos (by omega),if_pos (by rw [List.length_append]; omega),ht,zCG 8 v v0 (by omega)]
    show (match rdCall ((ck + 2 * ce) :: (le8 8 v ++ r)) with
     | none=>none
     | some (ck,ce,v,s,n)=>some ((⟨0,who,ck,ce,v,s,0⟩ : CM),n + 2)) = _
    rw [hc]
    dsimp only
    rw [Option.some.injEq,Prod.mk.injEq,CM.mk.injEq]
    exact ⟨⟨rfl,rfl,by omega,by omega,rfl,by omega,by omega⟩,by simp [hlen]⟩
   ·rw [if_neg c0]
    have hc : rdCall ((ck + 2 * ce) :: ([s] ++ r)) = some ((ck + 2 * ce) % 2,(ck + 2 * ce) / 2,0,s,2):=by
     unfold rdCall
     dsimp only
     rw [if_neg (by omega)]
     rfl
    show (match rdCall ((ck + 2 * ce) :: ([s] ++ r)) with
     | none=>none
     | some (ck,ce,v,s,n)=>some ((⟨0,who,ck,ce,v,s,0⟩ : CM),n + 2)) = _
    rw [hc]
    dsimp only
    rw [Option.some.injEq,Prod.mk.injEq,CM.mk.injEq]
    exact ⟨⟨rfl,rfl,by omega,by omega,by omega,rfl,by omega⟩,rfl⟩
end
section
open Go.RowKit
theorem zHc (a b p : Int) (k : Nat) (hp : p = ((2 ^ k : Nat) : Int)) (h0 : 0 ≤ a) (h1 : a < p) (hb : 0 ≤ b) (hlt : b * p < 18446744073709551616) (hp2 : p < 18446744073709551616) : bits .or .u64 a (b * p) = a + b * p:=by
 obtain ⟨n,rfl⟩:=Int.eq_ofNat_of_zero_le h0
 obtain ⟨m,rfl⟩:=Int.eq_ofNat_of_zero_le hb
 subst hp
 rw [← Int.natCast_mul] at hlt ⊢
 rw [u64_or_nat n (m * 2 ^ k) (by omega) (by omega)]
 have h2 : n < 2 ^ k:=by omega
 have h3:=Nat.two_pow_add_eq_or_of_lt h2 m
 rw [Nat.mul_comm m,Nat.or_comm, ← h3]
 omega
end
section
open Go.RowKit
section
variable {P : Program} {ops : Array Oper} {Q : Exit → Act → World → Prop} {S : World → Prop}
end
end
section
open Go.RowKit
def Byt (l : List Int) : Prop:=∀ b ∈ l,0 ≤ b ∧ b ≤ 255
abbrev rdL (A : Option Addr) (l : List Int) (cap at' : Nat) (sh : Bool) : List Value:=[.slice A l.length cap,i64 at',.bool sh]
structure RdIn (w : World) (rb : Nat) (A : Option Addr) (l : List Int) (cap at' : Nat) (sh : Bool) : Prop where
 obj : IsObj w rb (rdL A l cap at' sh)
 row : IsAt w A (l.map u8)
 cap : l.length ≤ cap
 apart : ∀ b off,A = some ⟨b,off,none⟩ → b ≠ rb
 le : at' ≤ l.length
 byt : Byt l
 few : l.length ≤ 1000000
section
variable {w w' : World} {rb : Nat} {A : Option Addr} {l : List Int} {cap at' : Nat} {sh : Bool}
theorem RdIn.later (h : RdIn w rb A l cap at' sh) (e : Below w.heap.size w w') : RdIn w' rb A l cap at' sh :=
 ⟨h.obj.later e,h.row.later e,h.cap,h.apart,h.le,h.byt,h.few⟩
theorem RdIn.keep {T : Nat → Prop} (h : RdIn w rb A l cap at' sh) (k : Keep T w w') (h1 : ¬ T rb) (h2 : ∀ b off,A = some ⟨b,off,none⟩ → 0 < l.length → ¬ T b) : RdIn w' rb A l cap at' sh :=
 ⟨h.obj.keep k h1,fun hp=>by
  obtain ⟨b,off,g1,g2,g3⟩:=h.row hp
  rw [List.length_map] at hp
  exact ⟨b,off,g1,Nat.lt_of_lt_of_le g2 k.size,fun j u hj=>k.cell (g3 j u hj) (h2 b off g1 hp)⟩,h.cap,h.apart,h.le,h.byt,h.few⟩
theorem RdIn.old (h : RdIn w rb A l cap at' sh) : ∀ b off,A = some ⟨b,off,none⟩ → 0 < l.length → b < w.heap.size:=fun b off hA hp=>by
 obtain ⟨b',off',g1,g2,_⟩:=h.row (by rw [List.length_map]; exact hp)
 rw [hA] at g1
 cases g1
 exact g2
theorem RdIn.turn (h : RdIn w rb A l cap at' sh) {a2 : Nat} {s2 : Bool} (k : Keep (· = rb) w w') (ho : IsObj w' rb (rdL A l cap a2 s2)) (hl : a2 ≤ l.length) : RdIn w' rb A l cap a2 s2 :=
 ⟨ho,fun hp=>by
  obtain ⟨b,off,h1,h2,h3⟩:=h.row hp
  exact ⟨b,off,h1,Nat.lt_of_lt_of_le h2 k.size,fun j u hj=>k.cell (h3 j u hj) (h.apart b off h1)⟩,h.cap,h.apart,hl,h.byt,h.few⟩
end
def NumIs (w : World) (rb : Nat) (A : Option Addr) (l : List Int) (cap at' : Nat) (sh : Bool) (n : Nat) (x : Int) (w' : World) : Prop :=
 Keep (· = rb) w w' ∧ ((l.length < at' + n ∧ x = 0 ∧ RdIn w' rb A l cap at' true) ∨ (at' + n ≤ l.length ∧ x = un8 ((l.drop at').take n) ∧ RdIn w' rb A l cap (at' + n) sh))
theorem zHQ {X b : Int} {i : Nat} (hi : i < 8) (x0 : 0 ≤ X) (x1 : X < 256 ^ i) (b0 : 0 ≤ b) (b1 : b ≤ 255) : bits .or .u64 X (IntKind.u64.wrap (b * 2 ^ (8 * i))) = X + b * 256 ^ i:=by
 have e : (2 : Int) ^ (8 * i) = 256 ^ i:=by rw [Int.pow_mul]; rfl
 have hp : (256 : Int) ^ i ≤ 72057594037927936 ∧ 1 ≤ (256 : Int) ^ i:=by
  rcases (by omega : i = 0 ∨ i = 1 ∨ i = 2 ∨ i = 3 ∨ i = 4 ∨ i = 5 ∨ i = 6 ∨ i = 7) with rfl | rfl | rfl | rfl | rfl | rfl | rfl | rfl <;> exact ⟨by decide,by decide⟩
 have hm : b * 256 ^ i ≤ 255 * 72057594037927936:=Int.mul_le_mul b1 hp.1 (by omega) (by decide)
 have hm0 : 0 ≤ b * 256 ^ i:=Int.mul_nonneg b0 (by omega)
 have hw : IntKind.u64.wrap (b * 2 ^ (8 * i)) = b * 256 ^ i:=by rw [IntKind.wrap_u64,e]; omega
 rw [hw]
 exact zHc X b (256 ^ i) (8 * i) (by rw [Int.natCast_pow]; exact e.symm) x0 x1 b0 (by omega) (by omega)
theorem zF5 {l : List Int} {at' i : Nat} {b : Int} (h : l[at' + i]? = some b) : un8 ((l.drop at').take (i + 1)) = un8 ((l.drop at').take i) + b * 256 ^ i :=
 zBd _ i b (by rw [List.getElem?_drop]; exact h)
theorem zFt {l : List Int} (h : Byt l) (a i : Nat) (hl : a + i ≤ l.length) : 0 ≤ un8 ((l.drop a).take i) ∧ un8 ((l.drop a).take i) < 256 ^ i:=by
 have h1:=zDr ((l.drop a).take i) (fun b hb=>h b (List.mem_of_mem_drop (List.mem_of_mem_take hb)))
 rw [List.length_take,List.length_drop,Nat.min_eq_left (by omega)] at h1
 exact h1
theorem zBt (rb : Nat) (A : Option Addr) (l : List Int) (cap at' n : Nat) (sh : Bool) (w : World) (h : RdIn w rb A l cap at' sh) (hn : n ≤ 8) :
  Calls Tryz.prog 109 #[pt rb,i64 n] w fun r w' => ∃ x,r = .returned (u64 x) ∧ NumIs w rb A l cap at' sh n x w':=by
 have H:=zHe h
 have hle:=h.le
 have hfew:=h.few
 have c0:=h.obj.at' 0 _ rfl
 have c1:=h.obj.at' 1 _ rfl
 have c2:=h.obj.at' 2 _ rfl
 have f0:=h.obj.fz 0
 have f1:=h.obj.fz 1
 have f2:=h.obj.fz 2
 have hlt:=h.obj.lt
 clear h
 obtain ⟨dl,hdl⟩ : ∃ dl : Nat,l.length = at' + dl:=⟨l.length - at',by omega⟩
 have hwr : IntKind.i64.wrap ((l.length : Int) - (at' : Int)) = (dl : Int):=by rw [IntWalk.i64_in _ (by omega)]; omega
 have HDL:=zHe hdl
 clear hdl
 rcases Nat.lt_or_ge dl n with hs | hs
 ·have hs' : (dl : Int) < (n : Int):=by omega
  go_enter Tryz.func109,Tryz.ntmps109
  go_wp2_with fail
  refine zAN ((0,true) :: (1,true) :: (2,true) :: (3,true) :: (4,true) :: (5,true) :: (6,true) :: (7,true) :: (8,true) :: (9,true) :: (10,true) :: (11,true) :: []) (by kernel_rfl) (by kernel_rfl) (by kernel_rfl) (by decide) (fun _ _ _ _ _ h=>h) (fun hHeld=>?_)
  repeat (first
   | (refine zAD (v := ?_) rfl ?_ ?_ ?_; rotate_left 1; rfl; (focus (intro wS hSw; have hk:=zAM hSw; go_simp; first | done | with_reducible rfl)); (try simp only [Act.put,qset]))
   | (refine zAC rfl ?_ ?_; rfl; (try simp only [Act.put,qset]))
   | (refine zAG rfl (fun K hK=>?_); go_simp; (try skip); (try go_wp2_with fail); refine hK.out _ _ ?_ ?_; (focus (first | exact zAB hHeld hb' | exact zAA hHeld _ | exact hHeld)); (try clear hb'); clear hHeld hK K; intro hHeld; (try simp only [Act.put,qset])))
  first | refine zAH ?_ | skip
  go_wp2_with fail
  go_ret
  have h1:=(H.out.obj.later (Below.refl w.heap.size w).drew).set 2 (.bool true)
  have hk : Keep (· = rb) w (w.drew.setCell ⟨rb,2,none⟩ (.bool true)):=Keep.setCell (T:=(· = rb)) (Keep.drew (Keep.refl _ _)) ⟨rb,2,none⟩ rfl _
  exact ⟨0,rfl,hk,.inl ⟨by have:=HDL.out; omega,rfl,H.out.turn hk h1 H.out.le⟩⟩
 ·have hs' : ¬ (dl : Int) < (n : Int):=by omega
  go_enter Tryz.func109,Tryz.ntmps109
  go_wp2_with fail
  refine zAN ((0,true) :: (1,true) :: (2,true) :: (3,true) :: (4,true) :: (5,true) :: (6,true) :: (7,true) :: (8,true) :: (9,true) :: (10,true) :: (11,true) :: []) (by kernel_rfl) (by kernel_rfl) (by kernel_rfl) (by decide) (fun _ _ _ _ _ h=>h) (fun hHeld=>?_)
  repeat (first
   | (refine zAD (v := ?_) rfl ?_ ?_ ?_; rotate_left 1; rfl; (focus (intro wS hSw; have hk:=zAM hSw; go_simp; first | done | with_reducible rfl)); (try simp only [Act.put,qset]))
   | (refine zAC rfl ?_ ?_; rfl; (try simp only [Act.put,qset]))
   | (refine zAG rfl (fun K hK=>?_); go_simp; (try skip); (try go_wp2_with fail); refine hK.out _ _ ?_ ?_; (focus (first | exact zAB hHeld hb' | exact zAA hHeld _ | exact hHeld)); (try clear hb'); clear hHeld hK K; intro hHeld; (try simp only [Act.put,qset])))
  first | refine zAH ?_ | skip
  go_wp2_with fail
  try rw [decide_eq_false (show ¬ dl < n by omega)]
  go_loopw [5,23] (fun xv iv wr => ∃ i : Nat,i ≤ n ∧ xv = .int .u64 (un8 ((l.drop at').take i)) ∧ iv = .int .i64 i ∧ Hid (Below w.heap.size w wr)) (fun _ iv _=>n - (RowKit.intOf iv).toNat)
  case atStart=>exact ⟨0,Nat.zero_le _,rfl,rfl,zHe (Below.refl _ _).drew⟩
  case round =>
   clear c0 c1 c2 f0 f1 f2
   obtain ⟨i,hi,rfl,rfl,HB⟩:=hrel
   have H1:=zHe (H.out.later HB.out)
   have c0:=H1.out.obj.at' 0 _ rfl
   have c1:=H1.out.obj.at' 1 _ rfl
   have c2:=H1.out.obj.at' 2 _ rfl
   have f0:=H1.out.obj.fz 0
   have f1:=H1.out.obj.fz 1
   have f2:=H1.out.obj.fz 2
   rcases Nat.lt_or_ge i n with hin | hin
   ·have hin' : (i : Int) < (n : Int):=by omega
    have hidx : at' + i < l.length:=by have:=HDL.out; omega
    obtain ⟨b,hb⟩ : ∃ b,l[at' + i]? = some b:=⟨_,List.getElem?_eq_getElem hidx⟩
    obtain ⟨bb,off,hA,hbl,hat⟩:=H1.out.row (by rw [List.length_map]; omega)
    have hcell:=hat (at' + i) (u8 b) (by rw [List.getElem?_map,hb]; rfl)
    have hby:=H1.out.byt b (List.mem_of_getElem? hb)
    have hun:=zFt H1.out.byt at' i (by omega)
    have hor:=zHQ (X:=un8 ((l.drop at').take i)) (b:=b) (by omega : i < 8) hun.1 hun.2 hby.1 hby.2
    rw [← zF5 hb,show 8 * i = (8 * (i : Int)).toNat by omega] at hor
    obtain ⟨ix,hixe⟩ : ∃ ix,ix = at' + i:=⟨_,rfl⟩
    have hwi : IntKind.i64.wrap ((at' : Int) + (i : Int)) = (ix : Int):=by rw [IntWalk.i64_in _ (by omega)]; omega
    rw [← hixe] at hcell hidx
    have hix : (ix : Int) < (l.length : Int):=by omega
    have hub : IntKind.u64.wrap b = b:=by rw [IntKind.wrap_u64]; omega
    have h8i : IntKind.i64.wrap (8 * (i : Int)) = 8 * (i : Int):=IntWalk.i64_in _ (by omega)
    clear hixe
    have HUN:=zHe hun
    have HA:=zHe hA
    clear hat hun hby hb
    generalize un8 ((l.drop at').take i) = X at *
    obtain ⟨X1,HX2⟩ : ∃ X1,Hid (un8 ((l.drop at').take (i + 1)) = X1):=⟨_,zHe rfl⟩
    rw [HX2.out] at hor
    subst hA
    go_wp2_with fail
    refine zAN ((0,true) :: (1,true) :: (2,true) :: (3,true) :: (4,true) :: (5,true) :: (6,true) :: (7,true) :: (8,true) :: (9,true) :: (10,true) :: (11,true) :: (12,true) :: (13,true) :: (14,true) :: (15,true) :: (16,true) :: (17,true) :: (18,true) :: []) (by kernel_rfl) (by kernel_rfl) (by kernel_rfl) (by decide) (fun _ _ _ _ _ h=>h) (fun hHeld=>?_)
    repeat (first
     | (refine zAD (v := ?_) rfl ?_ ?_ ?_; rotate_left 1; rfl; (focus (intro wS hSw; have hk:=zAM hSw; go_simp; first | done | with_reducible rfl)); (try simp only [Act.put,qset]))
     | (refine zAC rfl ?_ ?_; rfl; (try simp only [Act.put,qset]))
     | (refine zAG rfl (fun K hK=>?_); go_simp; (try skip); (try go_wp2_with fail); refine hK.out _ _ ?_ ?_; (focus (first | exact zAB hHeld hb' | exact zAA hHeld _ | exact hHeld)); (try clear hb'); clear hHeld hK K; intro hHeld; (try simp only [Act.put,qset])))
    first | refine zAH ?_ | skip
    have HB2:=zHe (zAB HB.out hHeld)
    go_wp2_with fail
    go_roundw
    case rel=>exact ⟨i + 1,by omega,by rw [HX2.out],by go_num,HB2⟩
    case measure=>first | omega | (simp [RowKit.intOf]; done) | (simp [RowKit.intOf]; omega)
   ·obtain rfl : i = n:=by omega
    have hnn : ¬ (i : Int) < (i : Int):=by omega
    have hwi : IntKind.i64.wrap ((at' : Int) + (i : Int)) = ((at' + i : Nat) : Int):=by rw [IntWalk.i64_in _ (by omega)]; omega
    have HO:=zHe H1.out.obj
    clear H1
    go_wp2_with fail
    go_ret
    have h1:=HO.out.set 1 (i64 ((at' + i : Nat) : Int))
    have hk : Keep (· = rb) w (wr.setCell ⟨rb,1,none⟩ (i64 ((at' + i : Nat) : Int))):=Keep.setCell (T:=(· = rb)) (Keep.of_below HB.out) ⟨rb,1,none⟩ rfl _
    exact ⟨_,rfl,hk,.inr ⟨by have:=HDL.out; omega,rfl,H.out.turn hk h1 (by have:=HDL.out; omega)⟩⟩
theorem zA8 (rb : Nat) (A : Option Addr) (l : List Int) (cap at' : Nat) (sh : Bool) (w : World) (h : RdIn w rb A l cap at' sh) :
  Calls Tryz.prog 107 #[pt rb] w fun r w' => ∃ x,r = .returned (i64 x) ∧ NumIs w rb A l cap at' sh 1 x w':=by
 have H:=zHe h
 clear h
 go_enter Tryz.func107,Tryz.ntmps107
 go_wp2_with fail
 refine (zBt rb A l cap at' 1 sh _ H.out (by decide)).mono ?_
 rintro r w' ⟨x,rfl,hN⟩
 have hx : IntKind.i64.wrap x = x:=by
  obtain ⟨_,⟨_,rfl,_⟩ | ⟨hle,hx,_⟩⟩:=hN
  ·rfl
  ·have h1:=zFt H.out.byt at' 1 hle
   rw [← hx] at h1
   rw [Int.pow_one] at h1
   exact IntWalk.i64_in _ (by omega)
 have HN:=zHe hN
 clear hN
 go_wp2_with fail
 go_ret
 exact ⟨x,rfl,HN.out⟩
def CallIs (w : World) (rb : Nat) (A : Option Addr) (l : List Int) (cap at' : Nat) (sh : Bool) (ck ce v s : Int) (w' : World) : Prop :=
 Keep (· = rb) w w' ∧ ∃ a2 s2,RdIn w' rb A l cap a2 s2 ∧ ((s2 = true ∧ (sh = true ∨ rdCall (l.drop at') = none)) ∨ (s2 = sh ∧ ∃ n,rdCall (l.drop at') = some (ck,ce,v,s,n) ∧ a2 = at' + n))
theorem zF3 (rb : Nat) (A : Option Addr) (l : List Int) (cap at' : Nat) (sh : Bool) (w : World) (h : RdIn w rb A l cap at' sh) :
  Calls Tryz.prog 108 #[pt rb] w fun r w' => ∃ ck ce v s,r = .returned (.agg #[.int .i64 ck,.int .i64 ce,.int .u64 v,.int .i64 s]) ∧ CallIs w rb A l cap at' sh ck ce v s w':=by
 have hk0 : Keep (· = rb) w (w.alloc (.cells #[.int .i64 0,.int .i64 0,.int .u64 0,.int .i64 0] 37)):=Keep.of_below (zAA (Below.refl _ _) _)
 have H:=zHe (h.later (zAA (Below.refl _ _) (.cells #[.int .i64 0,.int .i64 0,.int .u64 0,.int .i64 0] 37)))
 have HK:=zHe hk0
 have HO:=zHe (IsObj.made w [.int .i64 0,.int .i64 0,.int .u64 0,.int .i64 0] 37)
 have HLT:=zHe h.obj.lt
 have HOLD:=zHe h.old
 clear h hk0
 go_enter Tryz.func108,Tryz.ntmps108
 go_wp2_with fail
 generalize (w.alloc (.cells #[.int .i64 0,.int .i64 0,.int .u64 0,.int .i64 0] 37)) = w1 at H HK HO ⊢
 refine (zA8 rb A l cap at' sh _ H.out).mono ?_
 rintro r w2 ⟨how,rfl,hN⟩
 obtain ⟨k2,hN2⟩:=hN
 have hne : ∀ q,q = rb → q ≠ w.heap.size:=fun q hq=>by have:=HLT.out; omega
 have HK2:=zHe (HK.out.trans k2)
 have HO2:=zHe (HO.out.keep k2 (fun e=>hne _ e rfl))
 have HNE:=zHe hne
 obtain ⟨a2,s2,hR,hW⟩ : ∃ a2 s2,RdIn w2 rb A l cap a2 s2 ∧ ((s2 = true ∧ how = 0 ∧ l.length < at' + 1) ∨ (s2 = sh ∧ l[at']? = some how ∧ a2 = at' + 1)):=by
  rcases hN2 with ⟨h1,h2,h3⟩ | ⟨h1,h2,h3⟩
  ·exact ⟨_,_,h3,.inl ⟨rfl,h2,h1⟩⟩
  ·refine ⟨_,_,h3,.inr ⟨rfl, ?_,rfl⟩⟩
   have hx : at' < l.length:=by omega
   rw [h2,List.getElem?_eq_getElem hx,List.drop_eq_getElem_cons hx]
   show some l[at'] = some (l[at'] + 256 * un8 [])
   rw [show un8 [] = 0 from rfl]
   simp
 have hh : 0 ≤ how ∧ how ≤ 255:=by
  rcases hW with ⟨_,rfl,_⟩ | ⟨_,h1,_⟩
  ·omega
  ·exact H.out.byt _ (List.mem_of_getElem? h1)
 have HR:=zHe hR
 have HW:=zHe hW
 clear hR hW hN2 k2 hne H HK HO
 obtain ⟨ck,hck,hckE⟩ : ∃ ck,how.tmod 2 = ck ∧ ck = how % 2:=⟨_,rfl,Int.tmod_eq_emod_of_nonneg hh.1⟩
 obtain ⟨ce,hce,hceE⟩ : ∃ ce,how.tdiv 2 = ce ∧ ce = how / 2:=⟨_,rfl,Int.tdiv_eq_ediv_of_nonneg hh.1⟩
 have hwce : wrap64 ce = ce:=by unfold wrap64; omega
 have HCK:=zHe hckE
 have HCE:=zHe hceE
 have HC:=zHe (IsObj.made w2 [.int .i64 ck,.int .i64 ce,.int .u64 0,.int .i64 0] 37)
 have hbn:=zAA (Below.refl w2.heap.size w2) (.cells #[.int .i64 ck,.int .i64 ce,.int .u64 0,.int .i64 0] 37)
 have HR3:=zHe (HR.out.later hbn)
 have HO3:=zHe (HO2.out.later hbn)
 have HK3:=zHe (HK2.out.trans (Keep.of_below hbn))
 have HLT3:=zHe (show rb < w2.heap.size ∧ w.heap.size < w2.heap.size from ⟨HR.out.obj.lt,HO2.out.lt⟩)
 clear hbn HR HK2 HO2 hckE hceE hh
 by_cases c0 : ck = 0
 ·have p0 : (ck == 0) = true:=by simp [c0]
  have C0:=zHe c0
  clear c0
  go_wp2_with fail
  refine (zBt rb A l cap a2 8 s2 _ HR3.out (by decide)).mono ?_
  rintro r w4 ⟨x,rfl,k4,hN4⟩
  have HK4:=zHe (HK3.out.trans k4)
  have HO4:=zHe (HO3.out.keep k4 (fun e=>HNE.out _ e rfl))
  have HC4:=zHe (HC.out.keep k4 (fun e=>by have:=HLT3.out; omega))
  have HN4:=zHe hN4
  clear k4 hN4 HK3 HO3 HC HR3
  have q0:=HC4.out.at' 0 _ rfl
  have q1:=HC4.out.at' 1 _ rfl
  have q2:=HC4.out.at' 2 _ rfl
  have q3:=HC4.out.at' 3 _ rfl
  have f0:=HC4.out.fz 2
  have f3:=HC4.out.fz 3
  have o0:=HO4.out.at' 0 _ rfl
  have o1:=HO4.out.at' 1 _ rfl
  have o2:=HO4.out.at' 2 _ rfl
  have o3:=HO4.out.at' 3 _ rfl
  have g0:=HO4.out.fz 0
  have g1:=HO4.out.fz 1
  have g2:=HO4.out.fz 2
  have g3:=HO4.out.fz 3
  have hl1:=HC4.out.lt
  have hl2:=HO4.out.lt
  have hl3 : w.heap.size ≠ w2.heap.size:=by have:=HLT3.out; omega
  go_wp2_with fail
  have hk5 : Keep (fun i=>i = w.heap.size ∨ i = w2.heap.size) w4 (((((w4.setCell ⟨w2.heap.size,2,none⟩ (.int .u64 x)).setCell ⟨w.heap.size,0,none⟩ (.int .i64 ck)).setCell ⟨w.heap.size,1,none⟩ (.int .i64 ce)).setCell ⟨w.heap.size,2,none⟩ (.int .u64 x)).setCell ⟨w.heap.size,3,none⟩ (.int .i64 0)) :=
   Keep.setCell (T:=fun i=>i = w.heap.size ∨ i = w2.heap.size) (Keep.setCell (T:=fun i=>i = w.heap.size ∨ i = w2.heap.size) (Keep.setCell (T:=fun i=>i = w.heap.size ∨ i = w2.heap.size) (Keep.setCell (T:=fun i=>i = w.heap.size ∨ i = w2.heap.size) (Keep.setCell (T:=fun i=>i = w.heap.size ∨ i = w2.heap.size) (Keep.refl _ _) ⟨w2.heap.size,2,none⟩ (.inr rfl) _) ⟨w.heap.size,0,none⟩ (.inl rfl) _) ⟨w.heap.size,1,none⟩ (.inl rfl) _) ⟨w.heap.size,2,none⟩ (.inl rfl) _) ⟨w.heap.size,3,none⟩ (.inl rfl) _
  have ho5:=((((HO4.out.other (a:=w2.heap.size) 2 (.int .u64 x) hl3.symm).set 0 (.int .i64 ck)).set 1 (.int .i64 ce)).set 2 (.int .u64 x)).set 3 (.int .i64 0)
  generalize (((((w4.setCell ⟨w2.heap.size,2,none⟩ (.int .u64 x)).setCell ⟨w.heap.size,0,none⟩ (.int .i64 ck)).setCell ⟨w.heap.size,1,none⟩ (.int .i64 ce)).setCell ⟨w.heap.size,2,none⟩ (.int .u64 x)).setCell ⟨w.heap.size,3,none⟩ (.int .i64 0)) = w5 at hk5 ho5 ⊢
  have r0:=ho5.at' 0 _ rfl
  have r1:=ho5.at' 1 _ rfl
  have r2:=ho5.at' 2 _ rfl
  have r3:=ho5.at' 3 _ rfl
  refine bodyPost_ret (v:=.agg #[.int .i64 ck,.int .i64 ce,.int .u64 x,.int .i64 0]) (by simp [results,Tryz.results108,go_sem,r0,r1,r2,r3]) rfl ⟨ck,ce,x,0,rfl,HK4.out.then' hk5 (fun i hi=>.inr (by have:=HLT3.out; omega)), ?_⟩
  have rd : ∀ {a3 s3},RdIn w4 rb A l cap a3 s3 → RdIn w5 rb A l cap a3 s3:=fun {a3 s3} hr=>hr.keep hk5 (fun hh=>by have:=HLT.out; have:=HLT3.out; omega) (fun b off hA hp hh=>by have:=HOLD.out b off hA hp; have:=HLT3.out; omega)
  have h2 : how % 2 = 0:=by have:=HCK.out; have:=C0.out; omega
  rcases HW.out with ⟨hs,hh,hlen⟩ | ⟨hs,hl,ha⟩
  ·subst hs
   have hnone : rdCall (l.drop at') = none:=by rw [List.drop_of_length_le (by omega)]; rfl
   rcases HN4.out with ⟨n1,n2,n3⟩ | ⟨n1,n2,n3⟩
   ·exact ⟨_,_,rd n3,.inl ⟨rfl,.inr hnone⟩⟩
   ·exact ⟨_,_,rd n3,.inl ⟨rfl,.inr hnone⟩⟩
  ·subst hs ha
   have hx:=(List.getElem?_eq_some_iff.1 hl).1
   have hd : l.drop at' = how :: l.drop (at' + 1):=by
    rw [List.drop_eq_getElem_cons hx]
    rw [List.getElem?_eq_getElem hx,Option.some.injEq] at hl
    rw [hl]
   have hlen : (l.drop (at' + 1)).length = l.length - (at' + 1):=List.length_drop
   rcases HN4.out with ⟨n1,n2,n3⟩ | ⟨n1,n2,n3⟩
   ·refine ⟨_,_,rd n3,.inl ⟨rfl,.inr ?_⟩⟩
    rw [hd]
    unfold rdCall
    dsimp only
    rw [if_pos h2,if_neg (by omega)]
   ·refine ⟨_,_,rd n3,.inr ⟨rfl,9, ?_,rfl⟩⟩
    rw [hd,HCK.out,HCE.out,n2]
    unfold rdCall
    dsimp only
    rw [if_pos h2,if_pos (by omega)]
 ·have p0 : (ck == 0) = false:=by simp [c0]
  have C0:=zHe c0
  clear c0
  go_wp2_with fail
  refine (zA8 rb A l cap a2 s2 _ HR3.out).mono ?_
  rintro r w4 ⟨x,rfl,k4,hN4⟩
  have HK4:=zHe (HK3.out.trans k4)
  have HO4:=zHe (HO3.out.keep k4 (fun e=>HNE.out _ e rfl))
  have HC4:=zHe (HC.out.keep k4 (fun e=>by have:=HLT3.out; omega))
  have HN4:=zHe hN4
  clear k4 hN4 HK3 HO3 HC HR3
  have q0:=HC4.out.at' 0 _ rfl
  have q1:=HC4.out.at' 1 _ rfl
  have q2:=HC4.out.at' 2 _ rfl
  have q3:=HC4.out.at' 3 _ rfl
  have f0:=HC4.out.fz 2
  have f3:=HC4.out.fz 3
  have o0:=HO4.out.at' 0 _ rfl
  have o1:=HO4.out.at' 1 _ rfl
  have o2:=HO4.out.at' 2 _ rfl
  have o3:=HO4.out.at' 3 _ rfl
  have g0:=HO4.out.fz 0
  have g1:=HO4.out.fz 1
  have g2:=HO4.out.fz 2
  have g3:=HO4.out.fz 3
  have hl1:=HC4.out.lt
  have hl2:=HO4.out.lt
  have hl3 : w.heap.size ≠ w2.heap.size:=by have:=HLT3.out; omega
  go_wp2_with fail
  have hk5 : Keep (fun i=>i = w.heap.size ∨ i = w2.heap.size) w4 (((((w4.setCell ⟨w2.heap.size,3,none⟩ (.int .i64 x)).setCell ⟨w.heap.size,0,none⟩ (.int .i64 ck)).setCell ⟨w.heap.size,1,none⟩ (.int .i64 ce)).setCell ⟨w.heap.size,2,none⟩ (.int .u64 0)).setCell ⟨w.heap.size,3,none⟩ (.int .i64 x)) :=
   Keep.setCell (T:=fun i=>i = w.heap.size ∨ i = w2.heap.size) (Keep.setCell (T:=fun i=>i = w.heap.size ∨ i = w2.heap.size) (Keep.setCell (T:=fun i=>i = w.heap.size ∨ i = w2.heap.size) (Keep.setCell (T:=fun i=>i = w.heap.size ∨ i = w2.heap.size) (Keep.setCell (T:=fun i=>i = w.heap.size ∨ i = w2.heap.size) (Keep.refl _ _) ⟨w2.heap.size,3,none⟩ (.inr rfl) _) ⟨w.heap.size,0,none⟩ (.inl rfl) _) ⟨w.heap.size,1,none⟩ (.inl rfl) _) ⟨w.heap.size,2,none⟩ (.inl rfl) _) ⟨w.heap.size,3,none⟩ (.inl rfl) _
  have ho5:=((((HO4.out.other (a:=w2.heap.size) 3 (.int .i64 x) hl3.symm).set 0 (.int .i64 ck)).set 1 (.int .i64 ce)).set 2 (.int .u64 0)).set 3 (.int .i64 x)
  generalize (((((w4.setCell ⟨w2.heap.size,3,none⟩ (.int .i64 x)).setCell ⟨w.heap.size,0,none⟩ (.int .i64 ck)).setCell ⟨w.heap.size,1,none⟩ (.int .i64 ce)).setCell ⟨w.heap.size,2,none⟩ (.int .u64 0)).setCell ⟨w.heap.size,3,none⟩ (.int .i64 x)) = w5 at hk5 ho5 ⊢
  have r0:=ho5.at' 0 _ rfl
  have r1:=ho5.at' 1 _ rfl
  have r2:=ho5.at' 2 _ rfl
  have r3:=ho5.at' 3 _ rfl
  refine bodyPost_ret (v:=.agg #[.int .i64 ck,.int .i64 ce,.int .u64 0,.int .i64 x]) (by simp [results,Tryz.results108,go_sem,r0,r1,r2,r3]) rfl ⟨ck,ce,0,x,rfl,HK4.out.then' hk5 (fun i hi=>.inr (by have:=HLT3.out; omega)), ?_⟩
  have rd : ∀ {a3 s3},RdIn w4 rb A l cap a3 s3 → RdIn w5 rb A l cap a3 s3:=fun {a3 s3} hr=>hr.keep hk5 (fun hh=>by have:=HLT.out; have:=HLT3.out; omega) (fun b off hA hp hh=>by have:=HOLD.out b off hA hp; have:=HLT3.out; omega)
  have h2 : ¬ how % 2 = 0:=by have:=HCK.out; have:=C0.out; omega
  rcases HW.out with ⟨hs,hh,hlen⟩ | ⟨hs,hl,ha⟩
  ·subst hs
   have hnone : rdCall (l.drop at') = none:=by rw [List.drop_of_length_le (by omega)]; rfl
   rcases HN4.out with ⟨n1,n2,n3⟩ | ⟨n1,n2,n3⟩
   ·exact ⟨_,_,rd n3,.inl ⟨rfl,.inr hnone⟩⟩
   ·exact ⟨_,_,rd n3,.inl ⟨rfl,.inr hnone⟩⟩
  ·subst hs ha
   have hx:=(List.getElem?_eq_some_iff.1 hl).1
   have hd : l.drop at' = how :: l.drop (at' + 1):=by
    rw [List.drop_eq_getElem_cons hx]
    rw [List.getElem?_eq_getElem hx,Option.some.injEq] at hl
    rw [hl]
   rcases HN4.out with ⟨n1,n2,n3⟩ | ⟨n1,n2,n3⟩
   ·refine ⟨_,_,rd n3,.inl ⟨rfl,.inr ?_⟩⟩
    rw [hd,List.drop_of_length_le (by omega)]
    unfold rdCall
    dsimp only
    rw [if_neg h2]
   ·refine ⟨_,_,rd n3,.inr ⟨rfl,2, ?_,rfl⟩⟩
    have hy : at' + 1 < l.length:=by omega
    rw [hd,HCK.out,HCE.out,n2,List.drop_eq_getElem_cons hy]
    unfold rdCall
    dsimp only
    rw [if_neg h2]
    show some (how % 2,how / 2,(0 : Int),l[at' + 1],2) = some (how % 2,how / 2,(0 : Int),l[at' + 1] + 256 * un8 [],2)
    rw [show un8 [] = 0 from rfl,Int.mul_zero,Int.add_zero]
end
section
open Go.RowKit
theorem RdIn.other {w : World} {rb : Nat} {A : Option Addr} {l : List Int} {cap at' : Nat} {sh : Bool} (h : RdIn w rb A l cap at' sh) {b n : Nat} (i : Nat) (u : Value) (hb : b ≠ rb) (hn : n ≤ b) (ho : ∀ b off,A = some ⟨b,off,none⟩ → 0 < l.length → b < n) : RdIn (w.setCell ⟨b,i,none⟩ u) rb A l cap at' sh :=
 h.keep (T:=(· = b)) (Keep.setCell (T:=(· = b)) (Keep.refl _ _) ⟨b,i,none⟩ rfl u) (fun e=>hb e.symm) (fun b' off hA hp e=>by have:=ho b' off hA hp; omega)
structure MvAt (w wx : World) (rb mb ob : Nat) (A : Option Addr) (l : List Int) (cap at' : Nat) (m : CM) (a3 : Nat) (s3 : Bool) : Prop where
 keep : Keep (fun q=>q = rb) w wx
 rd : RdIn wx rb A l cap a3 s3
 obj : IsObj wx mb [i64 m.k,i64 m.who,i64 m.ck,i64 m.ce,u64 m.v,i64 m.st,i64 m.n]
 res : IsObj wx ob [i64 0,i64 0,i64 0,i64 0,u64 0,i64 0,i64 0]
 is : (s3 = true ∧ rdMove (l.drop at') = none) ∨ (s3 = false ∧ ∃ n,rdMove (l.drop at') = some (m,n) ∧ a3 = at' + n)
def MoveIs (w : World) (rb : Nat) (A : Option Addr) (l : List Int) (cap at' : Nat) (m : CM) (ok : Bool) (w' : World) : Prop :=
 Keep (· = rb) w w' ∧ ∃ a2 s2,RdIn w' rb A l cap a2 s2 ∧ ((ok = false ∧ ∀ (m' : CM) (r : List Int),m'.Good → l.drop at' ≠ m'.enc ++ r) ∨ (ok = true ∧ s2 = false ∧ m.Good ∧ ∃ r,l.drop at' = m.enc ++ r ∧ a2 = at' + m.enc.length))
theorem zFk (rb : Nat) (A : Option Addr) (l : List Int) (cap at' : Nat) (w : World) (h : RdIn w rb A l cap at' false) :
  Calls Tryz.prog 84 #[pt rb] w fun r w' => ∃ m ok,r = .returned (.tuple #[m.val,.bool ok]) ∧ MoveIs w rb A l cap at' m ok w':=by
 have hk0 : Keep (· = rb) w (w.alloc (.cells #[.int .i64 0,.int .i64 0,.int .i64 0,.int .i64 0,.int .u64 0,.int .i64 0,.int .i64 0] 39)):=Keep.of_below (zAA (Below.refl _ _) _)
 have H:=zHe (h.later (zAA (Below.refl _ _) (.cells #[.int .i64 0,.int .i64 0,.int .i64 0,.int .i64 0,.int .u64 0,.int .i64 0,.int .i64 0] 39)))
 have HK:=zHe hk0
 have HO:=zHe (IsObj.made w [.int .i64 0,.int .i64 0,.int .i64 0,.int .i64 0,.int .u64 0,.int .i64 0,.int .i64 0] 39)
 have HLT:=zHe h.obj.lt
 have HOLD:=zHe h.old
 have HBY:=zHe h.byt
 clear h hk0
 go_enter Tryz.func84,Tryz.ntmps84
 go_wp2_with fail
 generalize (w.alloc (.cells #[.int .i64 0,.int .i64 0,.int .i64 0,.int .i64 0,.int .u64 0,.int .i64 0,.int .i64 0] 39)) = w1 at H HK HO ⊢
 refine (zA8 rb A l cap at' false _ H.out).mono ?_
 rintro r w2 ⟨k,rfl,hN⟩
 obtain ⟨k2,hN2⟩:=hN
 have hne : ∀ q,q = rb → q ≠ w.heap.size:=fun q hq=>by have:=HLT.out; omega
 have HK2:=zHe (HK.out.trans k2)
 have HO2:=zHe (HO.out.keep (T:=(· = rb)) k2 (fun e=>hne _ e rfl))
 have HNE:=zHe hne
 obtain ⟨a2,s2,hR,hW⟩ : ∃ a2 s2,RdIn w2 rb A l cap a2 s2 ∧ ((s2 = true ∧ l.drop at' = []) ∨ (s2 = false ∧ ∃ r,l.drop at' = k :: r ∧ l.drop (at' + 1) = r ∧ a2 = at' + 1)):=by
  rcases hN2 with ⟨h1,h2,h3⟩ | ⟨h1,h2,h3⟩
  ·exact ⟨_,_,h3,.inl ⟨rfl,List.drop_of_length_le (by omega)⟩⟩
  ·have hx : at' < l.length:=by omega
   refine ⟨_,_,h3,.inr ⟨rfl,l.drop (at' + 1), ?_,rfl,rfl⟩⟩
   rw [h2,List.drop_eq_getElem_cons hx]
   show l[at'] :: _ = (l[at'] + 256 * un8 []) :: _
   rw [show un8 [] = 0 from rfl,Int.mul_zero,Int.add_zero]
 have HR:=zHe hR
 have HW:=zHe hW
 clear hR hW hN2 k2 hne H HK HO
 have HC:=zHe (IsObj.made w2 [.int .i64 k,.int .i64 0,.int .i64 0,.int .i64 0,.int .u64 0,.int .i64 0,.int .i64 0] 39)
 have hbn:=zAA (Below.refl w2.heap.size w2) (.cells #[.int .i64 k,.int .i64 0,.int .i64 0,.int .i64 0,.int .u64 0,.int .i64 0,.int .i64 0] 39)
 have HR3:=zHe (HR.out.later hbn)
 have HO3:=zHe (HO2.out.later hbn)
 have HK3:=zHe (HK2.out.trans (Keep.of_below hbn))
 have HLT3:=zHe (show rb < w2.heap.size ∧ w.heap.size < w2.heap.size from ⟨HR.out.obj.lt,HO2.out.lt⟩)
 clear hbn HR HK2 HO2
 go_upto_block 0 with fail
 generalize (w2.alloc (.cells #[.int .i64 k,.int .i64 0,.int .i64 0,.int .i64 0,.int .u64 0,.int .i64 0,.int .i64 0] 39)) = w3 at HC HR3 HO3 HK3 ⊢
 go_cut [] (fun wx => ∃ (m : CM) (a3 : Nat) (s3 : Bool),Hid (MvAt w wx rb w2.heap.size w.heap.size A l cap at' m a3 s3))
 case first =>
  by_cases k0 : k = 0
  ·subst k0
   go_wp2_with fail
   refine (zA8 rb A l cap a2 s2 _ HR3.out).mono ?_
   rintro r w4 ⟨who,rfl,k4,hN4⟩
   have HK4:=zHe (HK3.out.trans k4)
   have HO4:=zHe (HO3.out.keep (T:=(· = rb)) k4 (fun e=>HNE.out _ e rfl))
   have HC4:=zHe (HC.out.keep (T:=(· = rb)) k4 (fun e=>by have:=HLT3.out; omega))
   have HN4:=zHe hN4
   clear k4 hN4 HK3 HO3 HC HR3
   have f1:=HC4.out.fz 1
   have q1:=HC4.out.at' 1 _ rfl
   have hl1:=HC4.out.lt
   go_wp2_with fail
   have HC5:=zHe (HC4.out.set 1 (i64 who))
   have HO5:=zHe (HO4.out.other (a:=w2.heap.size) 1 (i64 who) (by have:=HLT3.out; omega))
   have HK5:=zHe (HK4.out.then' (T':=(· = w2.heap.size)) (Keep.setCell (T:=(· = w2.heap.size)) (Keep.refl _ _) ⟨w2.heap.size,1,none⟩ rfl (i64 who)) (fun i hi=>.inr (by have:=HLT3.out; omega)))
   obtain ⟨a5,s5,hR5,hW5⟩ : ∃ a5 s5,RdIn (w4.setCell ⟨w2.heap.size,1,none⟩ (i64 who)) rb A l cap a5 s5 ∧ ((s5 = true ∧ rdMove (l.drop at') = none) ∨ (s5 = false ∧ l.drop at' = 0 :: who :: l.drop a5 ∧ a5 = at' + 2)):=by
    have oth : ∀ {a s},RdIn w4 rb A l cap a s → RdIn (w4.setCell ⟨w2.heap.size,1,none⟩ (i64 who)) rb A l cap a s:=fun {a s} hr=>hr.other (n:=w.heap.size) 1 _ (by have:=HLT3.out; omega) (by have:=HLT3.out; omega) HOLD.out
    rcases HW.out with ⟨hs,hd⟩ | ⟨hs,r,hd,hr,ha⟩
    ·subst hs
     rcases HN4.out with ⟨n1,n2,n3⟩ | ⟨n1,n2,n3⟩
     ·exact ⟨_,_,oth n3,.inl ⟨rfl,by rw [hd]; rfl⟩⟩
     ·exact ⟨_,_,oth n3,.inl ⟨rfl,by rw [hd]; rfl⟩⟩
    ·subst hs ha
     rcases HN4.out with ⟨n1,n2,n3⟩ | ⟨n1,n2,n3⟩
     ·exact ⟨_,_,oth n3,.inl ⟨rfl,by rw [hd, ← hr,List.drop_of_length_le (by omega)]; rfl⟩⟩
     ·have hx : at' + 1 < l.length:=by omega
      refine ⟨_,_,oth n3,.inr ⟨rfl, ?_,rfl⟩⟩
      rw [hd, ← hr,n2,List.drop_eq_getElem_cons hx]
      show 0 :: l[at' + 1] :: _ = 0 :: (l[at' + 1] + 256 * un8 []) :: _
      rw [show un8 [] = 0 from rfl,Int.mul_zero,Int.add_zero]
   have HR5:=zHe hR5
   have HW5:=zHe hW5
   clear hR5 hW5 HC4 HO4 HK4 HN4 HW
   generalize (w4.setCell ⟨w2.heap.size,1,none⟩ (i64 who)) = w5 at HC5 HO5 HK5 HR5 ⊢
   refine (zF3 rb A l cap a5 s5 _ HR5.out).mono ?_
   rintro r w6 ⟨ck,ce,v,s,rfl,k6,a6,s6,hR6,hN6⟩
   have HK6:=zHe (HK5.out.trans k6)
   have HO6:=zHe (HO5.out.keep (T:=(· = rb)) k6 (fun e=>HNE.out _ e rfl))
   have HC6:=zHe (HC5.out.keep (T:=(· = rb)) k6 (fun e=>by have:=HLT3.out; omega))
   have HR6:=zHe hR6
   have HN6:=zHe hN6
   clear k6 hR6 hN6 HK5 HO5 HC5 HR5
   have f2:=HC6.out.fz 2
   have f3:=HC6.out.fz 3
   have f4:=HC6.out.fz 4
   have f5:=HC6.out.fz 5
   have q2:=HC6.out.at' 2 _ rfl
   have q3:=HC6.out.at' 3 _ rfl
   have q4:=HC6.out.at' 4 _ rfl
   have q5:=HC6.out.at' 5 _ rfl
   go_wp2_with fail
   go_meet
   refine ⟨⟨0,who,ck,ce,v,s,0⟩,a6,s6,zHe ⟨?_, ?_, ?_, ?_, ?_⟩⟩
   ·exact HK6.out.then' (T':=(· = w2.heap.size)) (Keep.setCell (T:=(· = w2.heap.size)) (Keep.setCell (T:=(· = w2.heap.size)) (Keep.setCell (T:=(· = w2.heap.size)) (Keep.setCell (T:=(· = w2.heap.size)) (Keep.refl _ _) ⟨w2.heap.size,2,none⟩ rfl _) ⟨w2.heap.size,3,none⟩ rfl _) ⟨w2.heap.size,4,none⟩ rfl _) ⟨w2.heap.size,5,none⟩ rfl _) (fun i hi=>.inr (by have:=HLT3.out; omega))
   ·have e1 : w2.heap.size ≠ rb:=by have:=HLT3.out; omega
    have e2 : w.heap.size ≤ w2.heap.size:=by have:=HLT3.out; omega
    exact (((HR6.out.other (n:=w.heap.size) 2 _ e1 e2 HOLD.out).other (n:=w.heap.size) 3 _ e1 e2 HOLD.out).other (n:=w.heap.size) 4 _ e1 e2 HOLD.out).other (n:=w.heap.size) 5 _ e1 e2 HOLD.out
   ·exact ((((HC6.out.set 2 (i64 ck)).set 3 (i64 ce)).set 4 (u64 v)).set 5 (i64 s))
   ·have e3 : w2.heap.size ≠ w.heap.size:=by have:=HLT3.out; omega
    exact (((HO6.out.other (a:=w2.heap.size) 2 _ e3).other (a:=w2.heap.size) 3 _ e3).other (a:=w2.heap.size) 4 _ e3).other (a:=w2.heap.size) 5 _ e3
   ·rcases HW5.out with ⟨hs,hn⟩ | ⟨hs,hd,ha⟩
    ·subst hs
     rcases HN6.out with ⟨n1,_⟩ | ⟨n1,_⟩
     ·exact .inl ⟨n1,hn⟩
     ·exact .inl ⟨n1,hn⟩
    ·subst hs ha
     rcases HN6.out with ⟨n1,n2⟩ | ⟨n1,n,n2,n3⟩
     ·refine .inl ⟨n1, ?_⟩
      rcases n2 with n2 | n2
      ·cases n2
      ·rw [hd]
       show (match rdCall (l.drop (at' + 2)) with
        | none=>none
        | some (ck,ce,v,s,n)=>some ((⟨0,who,ck,ce,v,s,0⟩ : CM),n + 2)) = none
       rw [n2]
     ·refine .inr ⟨n1,n + 2, ?_,by omega⟩
      rw [hd]
      show (match rdCall (l.drop (at' + 2)) with
       | none=>none
       | some (ck,ce,v,s,n)=>some ((⟨0,who,ck,ce,v,s,0⟩ : CM),n + 2)) = _
      rw [n2]
  ·have p0 : (k == 0) = false:=beq_false_of_ne k0
   by_cases k1 : k = 1
   ·subst k1
    clear p0
    go_wp2_with fail
    refine (zA8 rb A l cap a2 s2 _ HR3.out).mono ?_
    rintro r w4 ⟨who,rfl,k4,hN4⟩
    have HK4:=zHe (HK3.out.trans k4)
    have HO4:=zHe (HO3.out.keep (T:=(· = rb)) k4 (fun e=>HNE.out _ e rfl))
    have HC4:=zHe (HC.out.keep (T:=(· = rb)) k4 (fun e=>by have:=HLT3.out; omega))
    have HN4:=zHe hN4
    clear k4 hN4 HK3 HO3 HC HR3
    have f1:=HC4.out.fz 1
    have q1:=HC4.out.at' 1 _ rfl
    have hl1:=HC4.out.lt
    go_wp2_with fail
    go_meet
    have oth : ∀ {a s},RdIn w4 rb A l cap a s → RdIn (w4.setCell ⟨w2.heap.size,1,none⟩ (i64 who)) rb A l cap a s:=fun {a s} hr=>hr.other (n:=w.heap.size) 1 _ (by have:=HLT3.out; omega) (by have:=HLT3.out; omega) HOLD.out
    have hK5:=HK4.out.then' (T':=(· = w2.heap.size)) (Keep.setCell (T:=(· = w2.heap.size)) (Keep.refl _ _) ⟨w2.heap.size,1,none⟩ rfl (i64 who)) (fun i hi=>.inr (by have:=HLT3.out; omega))
    have hC5:=HC4.out.set 1 (i64 who)
    have hO5:=HO4.out.other (a:=w2.heap.size) 1 (i64 who) (by have:=HLT3.out; omega)
    rcases HW.out with ⟨hs,hd⟩ | ⟨hs,r,hd,hr,ha⟩
    ·subst hs
     rcases HN4.out with ⟨n1,n2,n3⟩ | ⟨n1,n2,n3⟩
     ·exact ⟨⟨1,who,0,0,0,0,0⟩,_,_,zHe ⟨hK5,oth n3,hC5,hO5,.inl ⟨rfl,by rw [hd]; rfl⟩⟩⟩
     ·exact ⟨⟨1,who,0,0,0,0,0⟩,_,_,zHe ⟨hK5,oth n3,hC5,hO5,.inl ⟨rfl,by rw [hd]; rfl⟩⟩⟩
    ·subst hs ha
     rcases HN4.out with ⟨n1,n2,n3⟩ | ⟨n1,n2,n3⟩
     ·refine ⟨⟨1,who,0,0,0,0,0⟩,_,_,zHe ⟨hK5,oth n3,hC5,hO5,.inl ⟨rfl, ?_⟩⟩⟩
      rw [hd, ← hr,List.drop_of_length_le (by omega)]
      rfl
     ·refine ⟨⟨1,who,0,0,0,0,0⟩,_,_,zHe ⟨hK5,oth n3,hC5,hO5,.inr ⟨rfl,2, ?_,by omega⟩⟩⟩
      have hx : at' + 1 < l.length:=by omega
      rw [hd, ← hr,n2,List.drop_eq_getElem_cons hx]
      show some ((⟨1,l[at' + 1],0,0,0,0,0⟩ : CM),2) = some ((⟨1,l[at' + 1] + 256 * un8 [],0,0,0,0,0⟩ : CM),2)
      rw [show un8 [] = 0 from rfl,Int.mul_zero,Int.add_zero]
   ·have p1 : (k == 1) = false:=beq_false_of_ne k1
    by_cases k2 : k = 2
    ·subst k2
     clear p0 p1
     go_wp2_with fail
     refine (zBt rb A l cap a2 2 s2 _ HR3.out (by decide)).mono ?_
     rintro r w4 ⟨who,rfl,k4,hN4⟩
     have hw64 : IntKind.i64.wrap who = who:=by
      rcases hN4 with ⟨_,rfl,_⟩ | ⟨n1,n2,_⟩
      ·rfl
      ·have h1:=zFt HBY.out a2 2 n1
       rw [← n2,show (256 : Int) ^ 2 = 65536 by decide] at h1
       exact IntWalk.i64_in _ (by omega)
     have HK4:=zHe (HK3.out.trans k4)
     have HO4:=zHe (HO3.out.keep (T:=(· = rb)) k4 (fun e=>HNE.out _ e rfl))
     have HC4:=zHe (HC.out.keep (T:=(· = rb)) k4 (fun e=>by have:=HLT3.out; omega))
     have HN4:=zHe hN4
     clear k4 hN4 HK3 HO3 HC HR3
     have f1:=HC4.out.fz 6
     have q1:=HC4.out.at' 6 _ rfl
     have hl1:=HC4.out.lt
     go_wp2_with fail
     go_meet
     have oth : ∀ {a s},RdIn w4 rb A l cap a s → RdIn (w4.setCell ⟨w2.heap.size,6,none⟩ (i64 who)) rb A l cap a s:=fun {a s} hr=>hr.other (n:=w.heap.size) 6 _ (by have:=HLT3.out; omega) (by have:=HLT3.out; omega) HOLD.out
     have hK5:=HK4.out.then' (T':=(· = w2.heap.size)) (Keep.setCell (T:=(· = w2.heap.size)) (Keep.refl _ _) ⟨w2.heap.size,6,none⟩ rfl (i64 who)) (fun i hi=>.inr (by have:=HLT3.out; omega))
     have hC5:=HC4.out.set 6 (i64 who)
     have hO5:=HO4.out.other (a:=w2.heap.size) 6 (i64 who) (by have:=HLT3.out; omega)
     rcases HW.out with ⟨hs,hd⟩ | ⟨hs,r,hd,hr,ha⟩
     ·subst hs
      rcases HN4.out with ⟨n1,n2,n3⟩ | ⟨n1,n2,n3⟩
      ·exact ⟨⟨2,0,0,0,0,0,who⟩,_,_,zHe ⟨hK5,oth n3,hC5,hO5,.inl ⟨rfl,by rw [hd]; rfl⟩⟩⟩
      ·exact ⟨⟨2,0,0,0,0,0,who⟩,_,_,zHe ⟨hK5,oth n3,hC5,hO5,.inl ⟨rfl,by rw [hd]; rfl⟩⟩⟩
     ·subst hs ha
      rcases HN4.out with ⟨n1,n2,n3⟩ | ⟨n1,n2,n3⟩
      ·refine ⟨⟨2,0,0,0,0,0,who⟩,_,_,zHe ⟨hK5,oth n3,hC5,hO5,.inl ⟨rfl, ?_⟩⟩⟩
       rw [hd, ← hr]
       show (if 2 ≤ (l.drop (at' + 1)).length then some ((⟨2,0,0,0,0,0,un8 ((l.drop (at' + 1)).take 2)⟩ : CM),3) else none) = none
       rw [if_neg (by rw [List.length_drop]; omega)]
      ·refine ⟨⟨2,0,0,0,0,0,who⟩,_,_,zHe ⟨hK5,oth n3,hC5,hO5,.inr ⟨rfl,3, ?_,by omega⟩⟩⟩
       rw [hd, ← hr,n2]
       show (if 2 ≤ (l.drop (at' + 1)).length then some ((⟨2,0,0,0,0,0,un8 ((l.drop (at' + 1)).take 2)⟩ : CM),3) else none) = _
       rw [if_pos (by rw [List.length_drop]; omega)]
    ·have p2 : (k == 2) = false:=beq_false_of_ne k2
     have K0:=zHe (show ¬ k = 0 ∧ ¬ k = 1 ∧ ¬ k = 2 from ⟨k0,k1,k2⟩)
     clear k0 k1 k2
     go_wp2_with fail
     go_meet
     refine ⟨⟨k,0,0,0,0,0,0⟩,a2,s2,zHe ⟨HK3.out,HR3.out,HC.out,HO3.out, ?_⟩⟩
     rcases HW.out with ⟨hs,hd⟩ | ⟨hs,r,hd,hr,ha⟩
     ·exact .inl ⟨hs,by rw [hd]; rfl⟩
     ·refine .inr ⟨hs,1, ?_,ha⟩
      rw [hd]
      obtain ⟨e0,e1,e2⟩:=K0.out
      unfold rdMove
      dsimp only
      rw [if_neg e0,if_neg e1,if_neg e2]
 case rest =>
  clear HC HR3 HO3 HK3 HW
  obtain ⟨m,a3,s3,HM⟩:=hcut
  have hc : ∀ wx,MvAt w wx rb w2.heap.size w.heap.size A l cap at' m a3 s3 → wx.cell? ⟨w2.heap.size,0,none⟩ = some (i64 m.k) ∧ wx.cell? ⟨w2.heap.size,1,none⟩ = some (i64 m.who) ∧ wx.cell? ⟨w2.heap.size,2,none⟩ = some (i64 m.ck) ∧ wx.cell? ⟨w2.heap.size,3,none⟩ = some (i64 m.ce) ∧ wx.cell? ⟨w2.heap.size,4,none⟩ = some (u64 m.v) ∧ wx.cell? ⟨w2.heap.size,5,none⟩ = some (i64 m.st) ∧ wx.cell? ⟨w2.heap.size,6,none⟩ = some (i64 m.n) ∧ wx.cell? ⟨rb,2,none⟩ = some (.bool s3):=fun wx h =>
   ⟨h.obj.at' 0 _ rfl,h.obj.at' 1 _ rfl,h.obj.at' 2 _ rfl,h.obj.at' 3 _ rfl,h.obj.at' 4 _ rfl,h.obj.at' 5 _ rfl,h.obj.at' 6 _ rfl,h.rd.obj.at' 2 _ rfl⟩
  have later : ∀ wx,Below wc.heap.size wc wx → MvAt w wx rb w2.heap.size w.heap.size A l cap at' m a3 s3:=fun wx hb=>⟨HM.out.keep.trans (Keep.of_below hb),HM.out.rd.later hb,HM.out.obj.later hb,HM.out.res.later hb,HM.out.is⟩
  have HC:=zHe hc
  have HL:=zHe later
  clear hc later
  go_wp2_with fail
  cases s3 with
  | true =>
   refine zAE ((fun wx=>wx.cell? ⟨w2.heap.size,0,none⟩ = some (i64 m.k) ∧ wx.cell? ⟨w2.heap.size,1,none⟩ = some (i64 m.who) ∧ wx.cell? ⟨w2.heap.size,2,none⟩ = some (i64 m.ck) ∧ wx.cell? ⟨w2.heap.size,3,none⟩ = some (i64 m.ce) ∧ wx.cell? ⟨w2.heap.size,4,none⟩ = some (u64 m.v) ∧ wx.cell? ⟨w2.heap.size,5,none⟩ = some (i64 m.st) ∧ wx.cell? ⟨w2.heap.size,6,none⟩ = some (i64 m.n) ∧ wx.cell? ⟨rb,2,none⟩ = some (.bool true))) ((0,true) :: (1,true) :: (2,true) :: (3,true) :: (4,true) :: (5,true) :: (6,true) :: (7,true) :: (8,false) :: (9,true) :: (10,false) :: (11,true) :: []) (by kernel_rfl) (by kernel_rfl) (by kernel_rfl) (by decide) (fun _ _ _ _ _ h=>h) (HC.out _ (HL.out _ (Below.refl _ _).drew)) ?_
   have HBL:=zHe (Below.refl wc.heap.size wc).drew
   generalize wc.drew = wb at HBL ⊢
   repeat ((first | (refine zAD (v := ?_) rfl ?_ ?_ ?_; rotate_left 1; rfl; focus (rintro wS ⟨c0,c1,c2,c3,c4,c5,c6,d2⟩; go_simp <;> with_reducible rfl)) | (refine zAC rfl ?_ ?_; rfl)); try simp only [Act.put,qset])
   refine zAG rfl (fun K hK=>?_)
   go_simp
   refine hK.out _ _ (HC.out _ (HL.out _ HBL.out)) (fun _=>?_)
   (try simp only [Act.put,qset])
   clear hK K
   repeat ((first | (refine zAD (v := ?_) rfl ?_ ?_ ?_; rotate_left 1; rfl; focus (rintro wS ⟨c0,c1,c2,c3,c4,c5,c6,d2⟩; go_simp <;> with_reducible rfl)) | (refine zAC rfl ?_ ?_; rfl)); try simp only [Act.put,qset])
   have HR0:=zHe (HL.out _ HBL.out).res
   have oo:=HR0.out
   have o0:=oo.at' 0 _ rfl
   have o1:=oo.at' 1 _ rfl
   have o2:=oo.at' 2 _ rfl
   have o3:=oo.at' 3 _ rfl
   have o4:=oo.at' 4 _ rfl
   have o5:=oo.at' 5 _ rfl
   have o6:=oo.at' 6 _ rfl
   have g0:=oo.fz 0
   have g1:=oo.fz 1
   have g2:=oo.fz 2
   have g3:=oo.fz 3
   have g4:=oo.fz 4
   have g5:=oo.fz 5
   have g6:=oo.fz 6
   have hne1 : w.heap.size ≠ w2.heap.size:=by have:=HLT3.out; omega
   have hne2 : w.heap.size ≠ rb:=by have:=HLT.out; omega
   clear oo
   refine zAG rfl (fun K hK=>?_)
   go_simp
   have hk5 : Keep (· = w.heap.size) wb (((((((wb.setCell ⟨w.heap.size,0,none⟩ (i64 m.k)).setCell ⟨w.heap.size,1,none⟩ (i64 m.who)).setCell ⟨w.heap.size,2,none⟩ (i64 m.ck)).setCell ⟨w.heap.size,3,none⟩ (i64 m.ce)).setCell ⟨w.heap.size,4,none⟩ (u64 m.v)).setCell ⟨w.heap.size,5,none⟩ (i64 m.st)).setCell ⟨w.heap.size,6,none⟩ (i64 m.n)) :=
    Keep.setCell (T:=(· = w.heap.size)) (Keep.setCell (T:=(· = w.heap.size)) (Keep.setCell (T:=(· = w.heap.size)) (Keep.setCell (T:=(· = w.heap.size)) (Keep.setCell (T:=(· = w.heap.size)) (Keep.setCell (T:=(· = w.heap.size)) (Keep.setCell (T:=(· = w.heap.size)) (Keep.refl _ _) ⟨w.heap.size,0,none⟩ rfl _) ⟨w.heap.size,1,none⟩ rfl _) ⟨w.heap.size,2,none⟩ rfl _) ⟨w.heap.size,3,none⟩ rfl _) ⟨w.heap.size,4,none⟩ rfl _) ⟨w.heap.size,5,none⟩ rfl _) ⟨w.heap.size,6,none⟩ rfl _
   have ho5:=(((((((HR0.out.set 0 (i64 m.k)).set 1 (i64 m.who)).set 2 (i64 m.ck)).set 3 (i64 m.ce)).set 4 (u64 m.v)).set 5 (i64 m.st)).set 6 (i64 m.n))
   generalize (((((((wb.setCell ⟨w.heap.size,0,none⟩ (i64 m.k)).setCell ⟨w.heap.size,1,none⟩ (i64 m.who)).setCell ⟨w.heap.size,2,none⟩ (i64 m.ck)).setCell ⟨w.heap.size,3,none⟩ (i64 m.ce)).setCell ⟨w.heap.size,4,none⟩ (u64 m.v)).setCell ⟨w.heap.size,5,none⟩ (i64 m.st)).setCell ⟨w.heap.size,6,none⟩ (i64 m.n)) = w5 at hk5 ho5 ⊢
   have HO5:=zHe ho5
   have HK5:=zHe hk5
   have hrd:=(HL.out _ HBL.out).rd.keep hk5 (fun e=>hne2 e.symm) (fun b off hA hp e=>by have:=HOLD.out b off hA hp; omega)
   have hob:=(HL.out _ HBL.out).obj.keep hk5 (fun e=>hne1 e.symm)
   have HRD:=zHe hrd
   have HS5:=zHe (show _ ∧ _ ∧ _ ∧ _ ∧ _ ∧ _ ∧ _ ∧ _ from ⟨hob.at' 0 _ rfl,hob.at' 1 _ rfl,hob.at' 2 _ rfl,hob.at' 3 _ rfl,hob.at' 4 _ rfl,hob.at' 5 _ rfl,hob.at' 6 _ rfl,hrd.obj.at' 2 _ rfl⟩)
   clear hk5 ho5 hrd hob o0 o1 o2 o3 o4 o5 o6 g0 g1 g2 g3 g4 g5 g6
   refine hK.out _ _ (HS5.out) (fun _=>?_)
   (try simp only [Act.put,qset])
   clear hK K
   repeat ((first | (refine zAD (v := ?_) rfl ?_ ?_ ?_; rotate_left 1; rfl; focus (rintro wS ⟨c0,c1,c2,c3,c4,c5,c6,d2⟩; go_simp <;> with_reducible rfl)) | (refine zAC rfl ?_ ?_; rfl)); try simp only [Act.put,qset])
   refine zAH ?_
   go_wp2_with fail
   have r0:=HO5.out.at' 0 _ rfl
   have r1:=HO5.out.at' 1 _ rfl
   have r2:=HO5.out.at' 2 _ rfl
   have r3:=HO5.out.at' 3 _ rfl
   have r4:=HO5.out.at' 4 _ rfl
   have r5:=HO5.out.at' 5 _ rfl
   have r6:=HO5.out.at' 6 _ rfl
   refine bodyPost_ret (v:=.tuple #[m.val,.bool false]) (by simp [results,Tryz.results84,go_sem,r0,r1,r2,r3,r4,r5,r6]) rfl ⟨m,false,rfl,(HL.out _ HBL.out).keep.then' HK5.out (fun i hi=>.inr (by omega)),a3,_,HRD.out, ?_⟩
   rcases HM.out.is with ⟨_,hn⟩ | ⟨hn,_⟩
   ·refine .inl ⟨rfl,fun m' r hg he=>?_⟩
    rw [he,zCh hg] at hn
    cases hn
   ·cases hn
  | false =>
   by_cases hmr : m.Right
   case pos =>
    have HMR:=zHe hmr
    have hdec : decide m.Right = true:=decide_eq_true hmr
    clear hmr
    refine zAE ((fun wx=>wx.cell? ⟨w2.heap.size,0,none⟩ = some (i64 m.k) ∧ wx.cell? ⟨w2.heap.size,1,none⟩ = some (i64 m.who) ∧ wx.cell? ⟨w2.heap.size,2,none⟩ = some (i64 m.ck) ∧ wx.cell? ⟨w2.heap.size,3,none⟩ = some (i64 m.ce) ∧ wx.cell? ⟨w2.heap.size,4,none⟩ = some (u64 m.v) ∧ wx.cell? ⟨w2.heap.size,5,none⟩ = some (i64 m.st) ∧ wx.cell? ⟨w2.heap.size,6,none⟩ = some (i64 m.n) ∧ wx.cell? ⟨rb,2,none⟩ = some (.bool false))) ((0,true) :: (1,true) :: (2,true) :: (3,true) :: (4,true) :: (5,true) :: (6,true) :: (7,true) :: (8,false) :: (9,true) :: (10,false) :: (11,true) :: []) (by kernel_rfl) (by kernel_rfl) (by kernel_rfl) (by decide) (fun _ _ _ _ _ h=>h) (HC.out _ (HL.out _ (Below.refl _ _).drew)) ?_
    repeat ((first | (refine zAD (v := ?_) rfl ?_ ?_ ?_; rotate_left 1; rfl; focus (rintro wS ⟨c0,c1,c2,c3,c4,c5,c6,d2⟩; go_simp <;> with_reducible rfl)) | (refine zAC rfl ?_ ?_; rfl)); try simp only [Act.put,qset])
    refine zAG rfl (fun K hK=>?_)
    go_simp
    go_at_call 18
    refine (zBp m _).mono ?_
    rintro r wb ⟨rfl,hb⟩
    (try go_wp2_with fail)
    have HBL:=zHe (zAB (Below.refl wc.heap.size wc).drew hb)
    clear hb
    refine hK.out _ _ (HC.out _ (HL.out _ HBL.out)) (fun _=>?_)
    (try simp only [Act.put,qset])
    clear hK K
    repeat ((first | (refine zAD (v := ?_) rfl ?_ ?_ ?_; rotate_left 1; rfl; focus (rintro wS ⟨c0,c1,c2,c3,c4,c5,c6,d2⟩; go_simp <;> with_reducible rfl)) | (refine zAC rfl ?_ ?_; rfl)); try simp only [Act.put,qset])
    have HR0:=zHe (HL.out _ HBL.out).res
    have oo:=HR0.out
    have o0:=oo.at' 0 _ rfl
    have o1:=oo.at' 1 _ rfl
    have o2:=oo.at' 2 _ rfl
    have o3:=oo.at' 3 _ rfl
    have o4:=oo.at' 4 _ rfl
    have o5:=oo.at' 5 _ rfl
    have o6:=oo.at' 6 _ rfl
    have g0:=oo.fz 0
    have g1:=oo.fz 1
    have g2:=oo.fz 2
    have g3:=oo.fz 3
    have g4:=oo.fz 4
    have g5:=oo.fz 5
    have g6:=oo.fz 6
    have hne1 : w.heap.size ≠ w2.heap.size:=by have:=HLT3.out; omega
    have hne2 : w.heap.size ≠ rb:=by have:=HLT.out; omega
    clear oo
    refine zAG rfl (fun K hK=>?_)
    go_simp
    have hk5 : Keep (· = w.heap.size) wb (((((((wb.setCell ⟨w.heap.size,0,none⟩ (i64 m.k)).setCell ⟨w.heap.size,1,none⟩ (i64 m.who)).setCell ⟨w.heap.size,2,none⟩ (i64 m.ck)).setCell ⟨w.heap.size,3,none⟩ (i64 m.ce)).setCell ⟨w.heap.size,4,none⟩ (u64 m.v)).setCell ⟨w.heap.size,5,none⟩ (i64 m.st)).setCell ⟨w.heap.size,6,none⟩ (i64 m.n)) :=
     Keep.setCell (T:=(· = w.heap.size)) (Keep.setCell (T:=(· = w.heap.size)) (Keep.setCell (T:=(· = w.heap.size)) (Keep.setCell (T:=(· = w.heap.size)) (Keep.setCell (T:=(· = w.heap.size)) (Keep.setCell (T:=(· = w.heap.size)) (Keep.setCell (T:=(· = w.heap.size)) (Keep.refl _ _) ⟨w.heap.size,0,none⟩ rfl _) ⟨w.heap.size,1,none⟩ rfl _) ⟨w.heap.size,2,none⟩ rfl _) ⟨w.heap.size,3,none⟩ rfl _) ⟨w.heap.size,4,none⟩ rfl _) ⟨w.heap.size,5,none⟩ rfl _) ⟨w.heap.size,6,none⟩ rfl _
    have ho5:=(((((((HR0.out.set 0 (i64 m.k)).set 1 (i64 m.who)).set 2 (i64 m.ck)).set 3 (i64 m.ce)).set 4 (u64 m.v)).set 5 (i64 m.st)).set 6 (i64 m.n))
    generalize (((((((wb.setCell ⟨w.heap.size,0,none⟩ (i64 m.k)).setCell ⟨w.heap.size,1,none⟩ (i64 m.who)).setCell ⟨w.heap.size,2,none⟩ (i64 m.ck)).setCell ⟨w.heap.size,3,none⟩ (i64 m.ce)).setCell ⟨w.heap.size,4,none⟩ (u64 m.v)).setCell ⟨w.heap.size,5,none⟩ (i64 m.st)).setCell ⟨w.heap.size,6,none⟩ (i64 m.n)) = w5 at hk5 ho5 ⊢
    have HO5:=zHe ho5
    have HK5:=zHe hk5
    have hrd:=(HL.out _ HBL.out).rd.keep hk5 (fun e=>hne2 e.symm) (fun b off hA hp e=>by have:=HOLD.out b off hA hp; omega)
    have hob:=(HL.out _ HBL.out).obj.keep hk5 (fun e=>hne1 e.symm)
    have HRD:=zHe hrd
    have HS5:=zHe (show _ ∧ _ ∧ _ ∧ _ ∧ _ ∧ _ ∧ _ ∧ _ from ⟨hob.at' 0 _ rfl,hob.at' 1 _ rfl,hob.at' 2 _ rfl,hob.at' 3 _ rfl,hob.at' 4 _ rfl,hob.at' 5 _ rfl,hob.at' 6 _ rfl,hrd.obj.at' 2 _ rfl⟩)
    clear hk5 ho5 hrd hob o0 o1 o2 o3 o4 o5 o6 g0 g1 g2 g3 g4 g5 g6
    refine hK.out _ _ (HS5.out) (fun _=>?_)
    (try simp only [Act.put,qset])
    clear hK K
    repeat ((first | (refine zAD (v := ?_) rfl ?_ ?_ ?_; rotate_left 1; rfl; focus (rintro wS ⟨c0,c1,c2,c3,c4,c5,c6,d2⟩; go_simp <;> with_reducible rfl)) | (refine zAC rfl ?_ ?_; rfl)); try simp only [Act.put,qset])
    refine zAH ?_
    go_wp2_with fail
    have r0:=HO5.out.at' 0 _ rfl
    have r1:=HO5.out.at' 1 _ rfl
    have r2:=HO5.out.at' 2 _ rfl
    have r3:=HO5.out.at' 3 _ rfl
    have r4:=HO5.out.at' 4 _ rfl
    have r5:=HO5.out.at' 5 _ rfl
    have r6:=HO5.out.at' 6 _ rfl
    refine bodyPost_ret (v:=.tuple #[m.val,.bool true]) (by simp [results,Tryz.results84,go_sem,r0,r1,r2,r3,r4,r5,r6]) rfl ⟨m,true,rfl,(HL.out _ HBL.out).keep.then' HK5.out (fun i hi=>.inr (by omega)),a3,_,HRD.out, ?_⟩
    rcases HM.out.is with ⟨hn,_⟩ | ⟨_,n,hn,ha⟩
    ·cases hn
    ·obtain ⟨g1,r,g2,g3⟩:=zEg (fun b hb=>HBY.out b (List.mem_of_mem_drop hb)) hn HMR.out
     exact .inr ⟨rfl,rfl,g1,r,g2,by omega⟩
   case neg =>
    have HMR:=zHe hmr
    have hdec : decide m.Right = false:=decide_eq_false hmr
    clear hmr
    refine zAE ((fun wx=>wx.cell? ⟨w2.heap.size,0,none⟩ = some (i64 m.k) ∧ wx.cell? ⟨w2.heap.size,1,none⟩ = some (i64 m.who) ∧ wx.cell? ⟨w2.heap.size,2,none⟩ = some (i64 m.ck) ∧ wx.cell? ⟨w2.heap.size,3,none⟩ = some (i64 m.ce) ∧ wx.cell? ⟨w2.heap.size,4,none⟩ = some (u64 m.v) ∧ wx.cell? ⟨w2.heap.size,5,none⟩ = some (i64 m.st) ∧ wx.cell? ⟨w2.heap.size,6,none⟩ = some (i64 m.n) ∧ wx.cell? ⟨rb,2,none⟩ = some (.bool false))) ((0,true) :: (1,true) :: (2,true) :: (3,true) :: (4,true) :: (5,true) :: (6,true) :: (7,true) :: (8,false) :: (9,true) :: (10,false) :: (11,true) :: []) (by kernel_rfl) (by kernel_rfl) (by kernel_rfl) (by decide) (fun _ _ _ _ _ h=>h) (HC.out _ (HL.out _ (Below.refl _ _).drew)) ?_
    repeat ((first | (refine zAD (v := ?_) rfl ?_ ?_ ?_; rotate_left 1; rfl; focus (rintro wS ⟨c0,c1,c2,c3,c4,c5,c6,d2⟩; go_simp <;> with_reducible rfl)) | (refine zAC rfl ?_ ?_; rfl)); try simp only [Act.put,qset])
    refine zAG rfl (fun K hK=>?_)
    go_simp
    go_at_call 18
    refine (zBp m _).mono ?_
    rintro r wb ⟨rfl,hb⟩
    (try go_wp2_with fail)
    have HBL:=zHe (zAB (Below.refl wc.heap.size wc).drew hb)
    clear hb
    refine hK.out _ _ (HC.out _ (HL.out _ HBL.out)) (fun _=>?_)
    (try simp only [Act.put,qset])
    clear hK K
    repeat ((first | (refine zAD (v := ?_) rfl ?_ ?_ ?_; rotate_left 1; rfl; focus (rintro wS ⟨c0,c1,c2,c3,c4,c5,c6,d2⟩; go_simp <;> with_reducible rfl)) | (refine zAC rfl ?_ ?_; rfl)); try simp only [Act.put,qset])
    have HR0:=zHe (HL.out _ HBL.out).res
    have oo:=HR0.out
    have o0:=oo.at' 0 _ rfl
    have o1:=oo.at' 1 _ rfl
    have o2:=oo.at' 2 _ rfl
    have o3:=oo.at' 3 _ rfl
    have o4:=oo.at' 4 _ rfl
    have o5:=oo.at' 5 _ rfl
    have o6:=oo.at' 6 _ rfl
    have g0:=oo.fz 0
    have g1:=oo.fz 1
    have g2:=oo.fz 2
    have g3:=oo.fz 3
    have g4:=oo.fz 4
    have g5:=oo.fz 5
    have g6:=oo.fz 6
    have hne1 : w.heap.size ≠ w2.heap.size:=by have:=HLT3.out; omega
    have hne2 : w.heap.size ≠ rb:=by have:=HLT.out; omega
    clear oo
    refine zAG rfl (fun K hK=>?_)
    go_simp
    have hk5 : Keep (· = w.heap.size) wb (((((((wb.setCell ⟨w.heap.size,0,none⟩ (i64 m.k)).setCell ⟨w.heap.size,1,none⟩ (i64 m.who)).setCell ⟨w.heap.size,2,none⟩ (i64 m.ck)).setCell ⟨w.heap.size,3,none⟩ (i64 m.ce)).setCell ⟨w.heap.size,4,none⟩ (u64 m.v)).setCell ⟨w.heap.size,5,none⟩ (i64 m.st)).setCell ⟨w.heap.size,6,none⟩ (i64 m.n)) :=
     Keep.setCell (T:=(· = w.heap.size)) (Keep.setCell (T:=(· = w.heap.size)) (Keep.setCell (T:=(· = w.heap.size)) (Keep.setCell (T:=(· = w.heap.size)) (Keep.setCell (T:=(· = w.heap.size)) (Keep.setCell (T:=(· = w.heap.size)) (Keep.setCell (T:=(· = w.heap.size)) (Keep.refl _ _) ⟨w.heap.size,0,none⟩ rfl _) ⟨w.heap.size,1,none⟩ rfl _) ⟨w.heap.size,2,none⟩ rfl _) ⟨w.heap.size,3,none⟩ rfl _) ⟨w.heap.size,4,none⟩ rfl _) ⟨w.heap.size,5,none⟩ rfl _) ⟨w.heap.size,6,none⟩ rfl _
    have ho5:=(((((((HR0.out.set 0 (i64 m.k)).set 1 (i64 m.who)).set 2 (i64 m.ck)).set 3 (i64 m.ce)).set 4 (u64 m.v)).set 5 (i64 m.st)).set 6 (i64 m.n))
    generalize (((((((wb.setCell ⟨w.heap.size,0,none⟩ (i64 m.k)).setCell ⟨w.heap.size,1,none⟩ (i64 m.who)).setCell ⟨w.heap.size,2,none⟩ (i64 m.ck)).setCell ⟨w.heap.size,3,none⟩ (i64 m.ce)).setCell ⟨w.heap.size,4,none⟩ (u64 m.v)).setCell ⟨w.heap.size,5,none⟩ (i64 m.st)).setCell ⟨w.heap.size,6,none⟩ (i64 m.n)) = w5 at hk5 ho5 ⊢
    have HO5:=zHe ho5
    have HK5:=zHe hk5
    have hrd:=(HL.out _ HBL.out).rd.keep hk5 (fun e=>hne2 e.symm) (fun b off hA hp e=>by have:=HOLD.out b off hA hp; omega)
    have hob:=(HL.out _ HBL.out).obj.keep hk5 (fun e=>hne1 e.symm)
    have HRD:=zHe hrd
    have HS5:=zHe (show _ ∧ _ ∧ _ ∧ _ ∧ _ ∧ _ ∧ _ ∧ _ from ⟨hob.at' 0 _ rfl,hob.at' 1 _ rfl,hob.at' 2 _ rfl,hob.at' 3 _ rfl,hob.at' 4 _ rfl,hob.at' 5 _ rfl,hob.at' 6 _ rfl,hrd.obj.at' 2 _ rfl⟩)
    clear hk5 ho5 hrd hob o0 o1 o2 o3 o4 o5 o6 g0 g1 g2 g3 g4 g5 g6
    refine hK.out _ _ (HS5.out) (fun _=>?_)
    (try simp only [Act.put,qset])
    clear hK K
    repeat ((first | (refine zAD (v := ?_) rfl ?_ ?_ ?_; rotate_left 1; rfl; focus (rintro wS ⟨c0,c1,c2,c3,c4,c5,c6,d2⟩; go_simp <;> with_reducible rfl)) | (refine zAC rfl ?_ ?_; rfl)); try simp only [Act.put,qset])
    refine zAH ?_
    go_wp2_with fail
    have r0:=HO5.out.at' 0 _ rfl
    have r1:=HO5.out.at' 1 _ rfl
    have r2:=HO5.out.at' 2 _ rfl
    have r3:=HO5.out.at' 3 _ rfl
    have r4:=HO5.out.at' 4 _ rfl
    have r5:=HO5.out.at' 5 _ rfl
    have r6:=HO5.out.at' 6 _ rfl
    refine bodyPost_ret (v:=.tuple #[m.val,.bool false]) (by simp [results,Tryz.results84,go_sem,r0,r1,r2,r3,r4,r5,r6]) rfl ⟨m,false,rfl,(HL.out _ HBL.out).keep.then' HK5.out (fun i hi=>.inr (by omega)),a3,_,HRD.out, ?_⟩
    rcases HM.out.is with ⟨hn,_⟩ | ⟨_,n,hn,ha⟩
    ·cases hn
    ·refine .inl ⟨rfl,fun m' r hg he=>?_⟩
     rw [he,zCh hg,Option.some.injEq,Prod.mk.injEq] at hn
     rw [hn.1] at hg
     exact HMR.out hg.1
end
section
open Go.RowKit
theorem Hold.cdSet {W w : World} {l : List Thing} {b : Nat} {xs : List Value} (h : Hold W w l) (i : Nat) (hi : l[i]? = some (tObj W.heap.size b xs)) (j : Nat) (u : Value) : Hold W (w.setCell ⟨b,j,none⟩ u) (l.set i (tObj W.heap.size b (xs.set j u))):=by
 have ho : IsObj w b xs ∧ W.heap.size ≤ b:=h.has i _ hi
 exact h.turn i hi (Keep.setCell (T:=fun q=>q = b) (Keep.refl _ _) ⟨b,j,none⟩ rfl u) (zAT _ _ _) ⟨ho.1.set j u,ho.2⟩ (fun q hq=>.inl hq)
theorem Hold.cd5 {W w : World} {l : List Thing} {b : Nat} {x0 x1 x2 x3 x4 : Value} (h : Hold W w l) (hi : l[0]? = some (tObj W.heap.size b [x0,x1,x2,x3,x4])) (v0 v1 v2 v3 v4 : Value) :
  Hold W (((((w.setCell ⟨b,0,none⟩ v0).setCell ⟨b,1,none⟩ v1).setCell ⟨b,2,none⟩ v2).setCell ⟨b,3,none⟩ v3).setCell ⟨b,4,none⟩ v4) (l.set 0 (tObj W.heap.size b [v0,v1,v2,v3,v4])):=by
 have hl : 0 < l.length:=(List.getElem?_eq_some_iff.1 hi).1
 have h1:=h.cdSet 0 hi 0 v0
 have h2:=h1.cdSet 0 (List.getElem?_set_self hl) 1 v1
 have h3:=h2.cdSet 0 (List.getElem?_set_self (by rw [List.length_set]; exact hl)) 2 v2
 have h4:=h3.cdSet 0 (List.getElem?_set_self (by rw [List.length_set,List.length_set]; exact hl)) 3 v3
 have h5:=h4.cdSet 0 (List.getElem?_set_self (by rw [List.length_set,List.length_set,List.length_set]; exact hl)) 4 v4
 simp only [List.set_set] at h5
 exact h5
theorem zBN (w : World) (c : Nat) (m : CM) (hb : c = w.heap.size) : Src (w.alloc (m.obj 39)) 7 (some ⟨c,0,none⟩) 1 m.list:=by
 subst hb
 exact zBR w m.list _ 7 1 rfl m.one
abbrev scV (t s so d : Int) (v : Value) : Value:=.agg #[.int .i64 t,.int .i64 s,.int .i64 so,.int .i64 d,v]
inductive DecPost (w' : World) (base : Nat) (l : List Int) : Value → Int → Int → Prop
 | short (h : l.length < 4) : DecPost w' base l (scV 0 0 0 0 (.slice none 0 0)) l.length 3
 | conf (t s so d : Int) (r : List Int) (h : l = t :: s :: so :: d :: r) (hr : rightC t s so d = false) : DecPost w' base l (scV 0 0 0 0 (.slice none 0 0)) 0 1
 | bad (t s so d : Int) (r : List Int) (n e : Int) (h : l = t :: s :: so :: d :: r) (hr : rightC t s so d = true) (hd : DecIs r [] n e) (he : e ≠ 0) : DecPost w' base l (scV 0 0 0 0 (.slice none 0 0)) (n + 4) e
 | ok (t s so d : Int) (r : List Int) (ms : List CM) (A : Option Addr) (cp : Nat) (h : l = t :: s :: so :: d :: r) (hr : rightC t s so d = true) (hd : DecIs r ms r.length 0) (ho : w'.ownsRow base 39 7 (.slice A ms.length cp) ms.length (flatM ms)) : DecPost w' base l (scV t s so d (.slice A ms.length cp)) l.length 0
structure DcH (W w : World) (ob sb rb : Nat) (A : Option Addr) (l : List Int) (cap at' : Nat) (t s so d : Int) (A1 : Option Addr) (cp1 : Nat) (ms : List CM) : Prop where
 h : Hold W w [tObj W.heap.size ob [i64 0,i64 0,i64 0,i64 0,.slice none 0 0],tObj W.heap.size sb [i64 t,i64 s,i64 so,i64 d,.slice A1 ms.length cp1],tRow W.heap.size 39 7 (.slice A1 ms.length cp1) ms.length (flatM ms),tObj W.heap.size rb (rdL A l cap at' false)]
 le : at' ≤ l.length
 is : l.drop 4 = encs ms ++ l.drop at'
 at4 : at' = 4 + (encs ms).length
 good : ∀ m ∈ ms,m.Good
 few : ms.length ≤ 65536
theorem zES (A : Option Addr) (l : List Int) (cap : Nat) (w : World) (h : IsAt w A (l.map u8)) (hb : Byt l) (hc : l.length ≤ cap) (hf : l.length ≤ 1000000) :
  Calls Tryz.prog 48 #[.slice A l.length cap] w fun r w' => ∃ v n e,r = .returned (.tuple #[v,i64 n,i64 e]) ∧ Below w.heap.size w w' ∧ DecPost w' w.heap.size l v n e:=by
 have H:=zHe h
 have HBY:=zHe hb
 have hbn:=zAA (Below.refl w.heap.size w) (.cells #[.int .i64 0,.int .i64 0,.int .i64 0,.int .i64 0,.slice none 0 0] 29)
 have HB:=zHe hbn
 have HO:=zHe (IsObj.made w [.int .i64 0,.int .i64 0,.int .i64 0,.int .i64 0,.slice none 0 0] 29)
 clear h hb hbn
 rcases Nat.lt_or_ge l.length 4 with h4 | h4
 ·have h4' : (l.length : Int) < 4:=by omega
  have H4:=zHe h4
  go_enter Tryz.func48,Tryz.ntmps48
  go_wp2_with fail
  exact bodyPost_ret (v:=.tuple #[scV 0 0 0 0 (.slice none 0 0),i64 l.length,i64 3]) (by simp [results,Tryz.results48,go_sem]) rfl ⟨_,_,_,rfl,HB.out,.short H4.out⟩
 have h4' : ¬ (l.length : Int) < 4:=by omega
 obtain ⟨b,off,rfl,hbl,hat⟩:=H.out (by rw [List.length_map]; omega)
 obtain ⟨t,s,so,d,r,hl⟩ : ∃ t s so d r,l = t :: s :: so :: d :: r:=by
  match l,h4 with
  | t :: s :: so :: d :: r,_=>exact ⟨t,s,so,d,r,rfl⟩
  | [],h=>exact absurd h (by decide)
  | [_],h=>exact absurd h (by show ¬ 4 ≤ 1; decide)
  | [_,_],h=>exact absurd h (by show ¬ 4 ≤ 2; decide)
  | [_,_,_],h=>exact absurd h (by show ¬ 4 ≤ 3; decide)
 have b0:=HBY.out t (by rw [hl]; simp)
 have b1:=HBY.out s (by rw [hl]; simp)
 have b2:=HBY.out so (by rw [hl]; simp)
 have b3:=HBY.out d (by rw [hl]; simp)
 have x0:=hat 0 (u8 t) (by rw [hl]; rfl)
 have x1:=hat 1 (u8 s) (by rw [hl]; rfl)
 have x2:=hat 2 (u8 so) (by rw [hl]; rfl)
 have x3:=hat 3 (u8 d) (by rw [hl]; rfl)
 have HL:=zHe hl
 have HLT:=zHe hbl
 have hX : ∀ wx,Below w.heap.size w wx → wx.cell? ⟨b,off,none⟩ = some (u8 t) ∧ wx.cell? ⟨b,off + 1,none⟩ = some (u8 s) ∧ wx.cell? ⟨b,off + 2,none⟩ = some (u8 so) ∧ wx.cell? ⟨b,off + 3,none⟩ = some (u8 d):=fun wx hb =>
  ⟨(hb.cell (p:=⟨b,off,none⟩) hbl).trans x0,(hb.cell (p:=⟨b,off + 1,none⟩) hbl).trans x1,(hb.cell (p:=⟨b,off + 2,none⟩) hbl).trans x2,(hb.cell (p:=⟨b,off + 3,none⟩) hbl).trans x3⟩
 have HX:=zHe hX
 have w0 : IntKind.i64.wrap t = t:=IntWalk.i64_in _ (by omega)
 have w1' : IntKind.i64.wrap s = s:=IntWalk.i64_in _ (by omega)
 have w2' : IntKind.i64.wrap so = so:=IntWalk.i64_in _ (by omega)
 have w3' : IntKind.i64.wrap d = d:=IntWalk.i64_in _ (by omega)
 clear hl hbl hat x0 x1 x2 x3 b0 b1 b2 b3 hX
 have HFW:=zHe (show 4 ≤ l.length ∧ l.length ≤ cap ∧ l.length ≤ 1000000 from ⟨h4,hc,hf⟩)
 clear hc hf h4 h4'
 obtain ⟨n,HN⟩ : ∃ n,Hid (l.length = n):=⟨_,zHe rfl⟩
 have hn4 : ¬ (n : Int) < 4:=by have:=HN.out; have:=HFW.out; omega
 have hn0 : (0 : Int) < (n : Int):=by omega
 have hn1 : (1 : Int) < (n : Int):=by omega
 have hn2 : (2 : Int) < (n : Int):=by omega
 have hn3 : (3 : Int) < (n : Int):=by omega
 rw [HN.out]
 go_enter Tryz.func48,Tryz.ntmps48
 go_wp2_with fail
 generalize (w.alloc (.cells #[.int .i64 0,.int .i64 0,.int .i64 0,.int .i64 0,.slice none 0 0] 29)) = w1 at HB HO ⊢
 have hm0 : 0 < n:=by have:=HN.out; have:=HFW.out; omega
 have hm1 : 1 < n:=by have:=HN.out; have:=HFW.out; omega
 have hm2 : 2 < n:=by have:=HN.out; have:=HFW.out; omega
 have hm3 : 3 < n:=by have:=HN.out; have:=HFW.out; omega
 refine zAE ((fun wx=>wx.cell? ⟨b,off,none⟩ = some (u8 t) ∧ wx.cell? ⟨b,off + 1,none⟩ = some (u8 s) ∧ wx.cell? ⟨b,off + 2,none⟩ = some (u8 so) ∧ wx.cell? ⟨b,off + 3,none⟩ = some (u8 d))) ((0,true) :: (1,true) :: (2,true) :: (3,true) :: (4,true) :: (5,true) :: (6,true) :: (7,true) :: (8,true) :: (9,true) :: (10,true) :: (11,true) :: (12,true) :: (13,true) :: (14,true) :: (15,true) :: (16,true) :: (17,true) :: (18,false) :: (19,false) :: []) (by kernel_rfl) (by kernel_rfl) (by kernel_rfl) (by decide) (fun _ _ _ _ _ h=>h) (HX.out _ (HB.out.drew)) ?_
 repeat ((first | (refine zAD (v := ?_) rfl ?_ ?_ ?_; rotate_left 1; rfl; focus (rintro wS ⟨c0,c1,c2,c3⟩; go_simp <;> with_reducible rfl)) | (refine zAC rfl ?_ ?_; rfl)); try simp only [Act.put,qset])
 have HBd:=zHe HB.out.drew
 have HOd:=zHe HO.out.drew
 generalize w1.drew = w2 at HBd HOd ⊢
 refine zAG rfl (fun K hK=>?_)
 go_simp
 refine hK.out _ _ (HX.out _ (zAA HBd.out _)) (fun _=>?_)
 (try simp only [Act.put,qset])
 clear hK K
 refine zAG rfl (fun K hK=>?_)
 go_simp
 refine hK.out _ _ (HX.out _ (zAA HBd.out _)) (fun _=>?_)
 (try simp only [Act.put,qset])
 clear hK K
 refine zAH ?_
 clear hm0 hm1 hm2 hm3 hn0 hn1 hn2 hn3 hn4
 have HH1:=(Hold.nil (Below.refl w.heap.size w)).more (A:=tObj w.heap.size w.heap.size [i64 0,i64 0,i64 0,i64 0,.slice none 0 0]) HBd.out (zAT _ _ _) ⟨HOd.out,Nat.le_refl _⟩ (fun q hq=>by cases hq; exact Nat.le_refl _)
 have HH2:=HH1.more (A:=tObj w.heap.size w2.heap.size [i64 t,i64 s,i64 so,i64 d,.slice none 0 0]) (zAA (Below.refl _ _) (.cells #[.int .i64 t,.int .i64 s,.int .i64 so,.int .i64 d,.slice none 0 0] 29)) (zAT _ _ _) ⟨IsObj.made w2 [i64 t,i64 s,i64 so,i64 d,.slice none 0 0] 29,HBd.out.size⟩ (fun q hq=>by cases hq; exact Nat.le_refl _)
 have HH3:=zHe (HH2.more (A:=tRow w.heap.size 39 7 (.slice none 0 0) 0 []) (Below.refl _ _) (zAy _ _ _ _ _ _) (World.ownsRow_nil _ _ _ _) (fun q hq=>by cases hq))
 clear HH1 HH2 HBd HOd HB HO
 generalize hsb : w2.heap.size = sb at HH3 ⊢
 clear hsb
 generalize (w2.alloc (.cells #[.int .i64 t,.int .i64 s,.int .i64 so,.int .i64 d,.slice none 0 0] 29)) = w3 at HH3 ⊢
 have hso:=(HH3.out.has 1 _ rfl : IsObj w3 sb [i64 t,i64 s,i64 so,i64 d,.slice none 0 0] ∧ _).1
 have q0:=hso.at' 0 _ rfl
 have q1:=hso.at' 1 _ rfl
 have q2:=hso.at' 2 _ rfl
 have q3:=hso.at' 3 _ rfl
 clear hso w0 w1' w2' w3'
 rcases Bool.eq_false_or_eq_true (rightC t s so d) with hr | hr
 case inr =>
  have HR:=zHe hr
  clear hr
  go_wp2_with fail
  refine (zA6 t s so d false HR.out _).mono ?_
  rintro r' w4 ⟨rfl,hb⟩
  have HH4:=zHe (HH3.out.later hb)
  clear HH3 hb q0 q1 q2 q3
  have hob:=(HH4.out.has 0 _ rfl : IsObj w4 w.heap.size [i64 0,i64 0,i64 0,i64 0,.slice none 0 0] ∧ _).1
  have o0:=hob.at' 0 _ rfl
  have o1:=hob.at' 1 _ rfl
  have o2:=hob.at' 2 _ rfl
  have o3:=hob.at' 3 _ rfl
  have o4:=hob.at' 4 _ rfl
  have g0:=hob.fz 0
  have g1:=hob.fz 1
  have g2:=hob.fz 2
  have g3:=hob.fz 3
  have g4:=hob.fz 4
  clear hob
  go_wp2_with fail
  have hH5:=HH4.out.cd5 rfl (i64 0) (i64 0) (i64 0) (i64 0) (.slice none 0 0)
  generalize (((((w4.setCell ⟨w.heap.size,0,none⟩ (i64 0)).setCell ⟨w.heap.size,1,none⟩ (i64 0)).setCell ⟨w.heap.size,2,none⟩ (i64 0)).setCell ⟨w.heap.size,3,none⟩ (i64 0)).setCell ⟨w.heap.size,4,none⟩ (.slice none 0 0)) = w9 at hH5 ⊢
  have hob:=(hH5.has 0 _ rfl : IsObj w9 w.heap.size [i64 0,i64 0,i64 0,i64 0,.slice none 0 0] ∧ _).1
  have r0:=hob.at' 0 _ rfl
  have r1:=hob.at' 1 _ rfl
  have r2:=hob.at' 2 _ rfl
  have r3:=hob.at' 3 _ rfl
  have r4:=hob.at' 4 _ rfl
  exact bodyPost_ret (v:=.tuple #[scV 0 0 0 0 (.slice none 0 0),i64 0,i64 1]) (by simp [results,Tryz.results48,go_sem,r0,r1,r2,r3,r4]) rfl ⟨_,_,_,rfl,hH5.below,.conf t s so d r HL.out HR.out⟩
 have HR:=zHe hr
 clear hr
 go_wp2_with fail
 refine (zA6 t s so d true HR.out _).mono ?_
 rintro r' w4 ⟨rfl,hb⟩
 have HH4:=zHe (HH3.out.later hb)
 clear HH3 hb q0 q1 q2 q3
 have hln:=HN.out
 subst hln
 have hHH5:=HH4.out.more (A:=tObj w.heap.size w4.heap.size (rdL (some ⟨b,off,none⟩) l cap 4 false)) (zAA (Below.refl _ _) (.cells #[.slice (some ⟨b,off,none⟩) l.length cap,.int .i64 4,.bool false] 145)) (zAT _ _ _) ⟨IsObj.made w4 (rdL (some ⟨b,off,none⟩) l cap 4 false) 145,HH4.out.size⟩ (fun q hq=>by cases hq; exact Nat.le_refl _)
 have HD0 : Hid (DcH w (w4.alloc (.cells #[.slice (some ⟨b,off,none⟩) l.length cap,.int .i64 4,.bool false] 145)) w.heap.size sb w4.heap.size (some ⟨b,off,none⟩) l cap 4 t s so d none 0 []):=zHe ⟨hHH5,HFW.out.1,by rw [HL.out]; rfl,rfl,(fun m hm=>by cases hm),by decide⟩
 have HRB:=zHe (show b ≠ w4.heap.size from fun e=>by have:=HLT.out; have:=HH4.out.size; omega)
 have HSZ:=zHe HH4.out.size
 clear hHH5 HH4 HX
 go_wp2_with fail
 generalize hrb : w4.heap.size = rb at HD0 HRB HSZ ⊢
 clear hrb
 generalize (w4.alloc (.cells #[.slice (some ⟨b,off,none⟩) l.length cap,.int .i64 4,.bool false] 145)) = w5 at HD0 ⊢
 go_loopw [7] (fun _ wr => ∃ (at' : Nat) (A1 : Option Addr) (cp1 : Nat) (ms : List CM),Hid (DcH w wr w.heap.size sb rb (some ⟨b,off,none⟩) l cap at' t s so d A1 cp1 ms)) (fun _ wx=>l.length - (RowKit.intOf ((wx.cell? ⟨rb,1,none⟩).getD undef)).toNat)
 case atStart=>exact ⟨4,_,_,[],HD0⟩
 case round =>
  clear HD0
  obtain ⟨at',A1,cp1,ms,HD⟩:=hrel
  have hh:=HD.out.h
  have hrdo:=(hh.has 3 _ rfl : IsObj wr rb (rdL (some ⟨b,off,none⟩) l cap at' false) ∧ _).1
  have HRD:=zHe (show RdIn wr rb (some ⟨b,off,none⟩) l cap at' false from ⟨hrdo,H.out.later hh.below,HFW.out.2.1,fun b' off' e=>by cases e; exact HRB.out,HD.out.le,HBY.out,HFW.out.2.2⟩)
  have k1:=hrdo.at' 1 _ rfl
  have HHold:=zHe hh
  have HIS:=zHe (show l.drop 4 = encs ms ++ l.drop at' ∧ at' = 4 + (encs ms).length ∧ (∀ m ∈ ms,m.Good) ∧ ms.length ≤ 65536 from ⟨HD.out.is,HD.out.at4,HD.out.good,HD.out.few⟩)
  have hle:=HD.out.le
  have HK1:=zHe k1
  clear hh hrdo
  have hdr : l.drop 4 = r:=by rw [HL.out]; rfl
  have HDR:=zHe hdr
  clear hdr
  rcases Nat.lt_or_ge at' l.length with hlt | hge
  ·have hlt' : (at' : Int) < (l.length : Int):=by omega
   have HLE:=zHe hlt
   clear HD
   go_wp2_with fail
   refine (zFk rb (some ⟨b,off,none⟩) l cap at' _ HRD.out).mono ?_
   rintro r' w6 ⟨m,ok,rfl,k6,a2,s2,hR6,hM6⟩
   have HH6:=zHe (HHold.out.turn 3 rfl (A':=tObj w.heap.size rb (rdL (some ⟨b,off,none⟩) l cap a2 s2)) k6 (zAT _ _ _) ⟨hR6.obj,HSZ.out⟩ (fun q hq=>.inl hq))
   have HM6:=zHe hM6
   have HR6:=zHe hR6
   clear k6 hR6 hM6 HHold HRD k1
   have HH7:=zHe (HH6.out.later (zAA (Below.refl _ _) (m.obj 39)))
   have HMB:=zHe (IsObj.made w6 m.list 39)
   cases ok with
   | false =>
    clear HMB
    have hob:=(HH7.out.has 0 _ rfl : IsObj (w6.alloc (m.obj 39)) w.heap.size [i64 0,i64 0,i64 0,i64 0,.slice none 0 0] ∧ _).1
    have o0:=hob.at' 0 _ rfl
    have o1:=hob.at' 1 _ rfl
    have o2:=hob.at' 2 _ rfl
    have o3:=hob.at' 3 _ rfl
    have o4:=hob.at' 4 _ rfl
    have g0:=hob.fz 0
    have g1:=hob.fz 1
    have g2:=hob.fz 2
    have g3:=hob.fz 3
    have g4:=hob.fz 4
    clear hob
    go_wp2_with fail
    have hH5:=HH7.out.cd5 rfl (i64 0) (i64 0) (i64 0) (i64 0) (.slice none 0 0)
    generalize ((((((w6.alloc (m.obj 39)).setCell ⟨w.heap.size,0,none⟩ (i64 0)).setCell ⟨w.heap.size,1,none⟩ (i64 0)).setCell ⟨w.heap.size,2,none⟩ (i64 0)).setCell ⟨w.heap.size,3,none⟩ (i64 0)).setCell ⟨w.heap.size,4,none⟩ (.slice none 0 0)) = w9 at hH5 ⊢
    have hob:=(hH5.has 0 _ rfl : IsObj w9 w.heap.size [i64 0,i64 0,i64 0,i64 0,.slice none 0 0] ∧ _).1
    have r0:=hob.at' 0 _ rfl
    have r1:=hob.at' 1 _ rfl
    have r2:=hob.at' 2 _ rfl
    have r3:=hob.at' 3 _ rfl
    have r4:=hob.at' 4 _ rfl
    obtain ⟨i1,i2,i3,i4⟩:=HIS.out
    rcases HM6.out with ⟨_,hno⟩ | ⟨hf,_⟩
    ·have hd : DecIs r [] ((encs ms).length : Int) 3:=.form ms (l.drop at') i3 i4 (by rw [← HDR.out]; exact i1) (fun e=>by have:=HLE.out; rw [List.drop_eq_nil_iff] at e; omega) hno
     have hp:=DecPost.bad (w':=w9) (base:=w.heap.size) t s so d r _ _ HL.out HR.out hd (by decide)
     rw [show (((encs ms).length : Int) + 4) = (at' : Int) by omega] at hp
     refine bodyPost_ret (v:=.tuple #[scV 0 0 0 0 (.slice none 0 0),i64 at',i64 3]) (by simp [results,Tryz.results48,go_sem,r0,r1,r2,r3,r4]) rfl ⟨_,_,_,rfl,hH5.below, ?_⟩
     exact hp
    ·cases hf
   | true =>
    rcases (by have:=HIS.out.2.2.2; omega : ms.length = 65536 ∨ ms.length < 65536) with hn | hn
    ·have hn' : (ms.length : Int) = 65536:=by omega
     have HN6:=zHe hn
     have hsb:=(HH7.out.has 1 _ rfl : IsObj (w6.alloc (m.obj 39)) sb [i64 t,i64 s,i64 so,i64 d,.slice A1 ms.length cp1] ∧ _).1
     have s4:=hsb.at' 4 _ rfl
     clear hsb HMB
     have hob:=(HH7.out.has 0 _ rfl : IsObj (w6.alloc (m.obj 39)) w.heap.size [i64 0,i64 0,i64 0,i64 0,.slice none 0 0] ∧ _).1
     have o0:=hob.at' 0 _ rfl
     have o1:=hob.at' 1 _ rfl
     have o2:=hob.at' 2 _ rfl
     have o3:=hob.at' 3 _ rfl
     have o4:=hob.at' 4 _ rfl
     have g0:=hob.fz 0
     have g1:=hob.fz 1
     have g2:=hob.fz 2
     have g3:=hob.fz 3
     have g4:=hob.fz 4
     clear hob
     go_wp2_with fail
     have hH5:=HH7.out.cd5 rfl (i64 0) (i64 0) (i64 0) (i64 0) (.slice none 0 0)
     generalize ((((((w6.alloc (m.obj 39)).setCell ⟨w.heap.size,0,none⟩ (i64 0)).setCell ⟨w.heap.size,1,none⟩ (i64 0)).setCell ⟨w.heap.size,2,none⟩ (i64 0)).setCell ⟨w.heap.size,3,none⟩ (i64 0)).setCell ⟨w.heap.size,4,none⟩ (.slice none 0 0)) = w9 at hH5 ⊢
     have hob:=(hH5.has 0 _ rfl : IsObj w9 w.heap.size [i64 0,i64 0,i64 0,i64 0,.slice none 0 0] ∧ _).1
     have r0:=hob.at' 0 _ rfl
     have r1:=hob.at' 1 _ rfl
     have r2:=hob.at' 2 _ rfl
     have r3:=hob.at' 3 _ rfl
     have r4:=hob.at' 4 _ rfl
     obtain ⟨i1,i2,i3,i4⟩:=HIS.out
     rcases HM6.out with ⟨hf,_⟩ | ⟨_,_,hg,r1',hr1,_⟩
     ·cases hf
     ·have hd : DecIs r [] ((encs ms).length : Int) 7:=.many ms m r1' i3 HN6.out (by rw [← HDR.out,i1,hr1]) hg
      have hp:=DecPost.bad (w':=w9) (base:=w.heap.size) t s so d r _ _ HL.out HR.out hd (by decide)
      rw [show (((encs ms).length : Int) + 4) = (at' : Int) by omega] at hp
      refine bodyPost_ret (v:=.tuple #[scV 0 0 0 0 (.slice none 0 0),i64 at',i64 7]) (by simp [results,Tryz.results48,go_sem,r0,r1,r2,r3,r4]) rfl ⟨_,_,_,rfl,hH5.below, ?_⟩
      exact hp
    ·have hn' : ((ms.length : Int) == 65536) = false:=beq_false_of_ne (by omega)
     have HN6:=zHe hn
     have hsb:=(HH7.out.has 1 _ rfl : IsObj (w6.alloc (m.obj 39)) sb [i64 t,i64 s,i64 so,i64 d,.slice A1 ms.length cp1] ∧ _).1
     have s4:=hsb.at' 4 _ rfl
     have HW7:=zHe (show (w6.alloc (m.obj 39)).heap.size = w6.heap.size + 1 by simp)
     have c0:=HMB.out.at' 0 _ rfl
     have c1:=HMB.out.at' 1 _ rfl
     have c2:=HMB.out.at' 2 _ rfl
     have c3:=HMB.out.at' 3 _ rfl
     have c4:=HMB.out.at' 4 _ rfl
     have c5:=HMB.out.at' 5 _ rfl
     have c6:=HMB.out.at' 6 _ rfl
     clear hsb hn HMB
     go_wp2_with (at_builtin; go_loud (refine zAJ rfl _ _ 27 rfl w.heap.size 39 _ 7 56 zBM (.slice A1 ms.length cp1) ms.length (flatM ms) rfl ((HH7.out.later (zAA (Below.refl _ _) (m.obj 39))).has 2 _ rfl) (some ⟨_,0,none⟩) 1 1 m.list rfl (zBN _ _ m (by simp)) (by unfold maxLen; have:=HN6.out; omega) (by have:=HN6.out; omega) (HH7.out.later (zAA (Below.refl _ _) (m.obj 39))).size ?_); intro v' w8 hG; go_loud (obtain ⟨A2,cp2,rfl⟩:=zAK hG.own; have hH8:=(HH7.out.later (zAA (Below.refl _ _) (m.obj 39))).append 2 rfl rfl hG; have HH8:=zHe hH8; have hs8:=(hH8.has 1 _ rfl : IsObj w8 sb [i64 t,i64 s,i64 so,i64 d,.slice A1 ms.length cp1] ∧ _).1; have z4:=hs8.at' 4 _ rfl; have y4:=hs8.fz 4; clear hs8 hH8 hG s4 c0 c1 c2 c3 c4 c5 c6 HH7))
     have hH9:=HH8.out.cdSet 1 rfl 4 (.slice A2 (ms.length + 1) cp2)
     obtain ⟨i1,i2,i3,i4⟩:=HIS.out
     rcases HM6.out with ⟨hf,_⟩ | ⟨_,hs2,hg,r1',hr1,ha2⟩
     ·cases hf
     subst hs2
     have hlen : (ms ++ [m]).length = ms.length + 1:=by simp
     have hfl : flatM (ms ++ [m]) = flatM ms ++ m.list:=by rw [zAU]; simp [flatM]
     have hrb : IsObj _ rb (rdL (some ⟨b,off,none⟩) l cap a2 false):=(hH9.has 3 _ rfl).1
     have hc1:=hrb.at' 1 _ rfl
     have hel:=zDo m
     have hd2 : l.drop a2 = r1':=by
      have h1 : l.drop a2 = (l.drop at').drop m.enc.length:=by rw [List.drop_drop,ha2]
      rw [h1,hr1,List.drop_left]
     have hle2:=HR6.out.le
     refine ⟨⟨a2,A2,cp2,ms ++ [m],zHe ⟨?_,hle2, ?_, ?_, ?_, ?_⟩⟩, ?_⟩
     ·rw [hlen,hfl]
      exact hH9
     ·rw [i1,hr1,zBe,hd2,List.append_assoc]
     ·rw [zBe,List.length_append]
      omega
     ·intro x hx
      rcases List.mem_append.1 hx with hx | hx
      ·exact i3 x hx
      ·rw [List.mem_singleton.1 hx]
       exact hg
     ·have:=HN6.out
      rw [hlen]
      omega
     ·rw [hc1,HK1.out]
      simp only [Option.getD_some,RowKit.intOf,Int.toNat_natCast]
      have:=HLE.out
      omega
  ·have hge' : ¬ (at' : Int) < (l.length : Int):=by omega
   have hsb:=(HHold.out.has 1 _ rfl : IsObj wr sb [i64 t,i64 s,i64 so,i64 d,.slice A1 ms.length cp1] ∧ _).1
   have s0:=hsb.at' 0 _ rfl
   have s1:=hsb.at' 1 _ rfl
   have s2:=hsb.at' 2 _ rfl
   have s3:=hsb.at' 3 _ rfl
   have s4:=hsb.at' 4 _ rfl
   have HGE:=zHe (show at' = l.length by omega)
   clear hsb HD HRD hge hle
   have hob:=(HHold.out.has 0 _ rfl : IsObj wr w.heap.size [i64 0,i64 0,i64 0,i64 0,.slice none 0 0] ∧ _).1
   have o0:=hob.at' 0 _ rfl
   have o1:=hob.at' 1 _ rfl
   have o2:=hob.at' 2 _ rfl
   have o3:=hob.at' 3 _ rfl
   have o4:=hob.at' 4 _ rfl
   have g0:=hob.fz 0
   have g1:=hob.fz 1
   have g2:=hob.fz 2
   have g3:=hob.fz 3
   have g4:=hob.fz 4
   clear hob
   go_wp2_with fail
   have hH5:=HHold.out.cd5 rfl (i64 t) (i64 s) (i64 so) (i64 d) (.slice A1 ms.length cp1)
   generalize (((((wr.setCell ⟨w.heap.size,0,none⟩ (i64 t)).setCell ⟨w.heap.size,1,none⟩ (i64 s)).setCell ⟨w.heap.size,2,none⟩ (i64 so)).setCell ⟨w.heap.size,3,none⟩ (i64 d)).setCell ⟨w.heap.size,4,none⟩ (.slice A1 ms.length cp1)) = w9 at hH5 ⊢
   have hob:=(hH5.has 0 _ rfl : IsObj w9 w.heap.size [i64 t,i64 s,i64 so,i64 d,.slice A1 ms.length cp1] ∧ _).1
   have r0:=hob.at' 0 _ rfl
   have r1:=hob.at' 1 _ rfl
   have r2:=hob.at' 2 _ rfl
   have r3:=hob.at' 3 _ rfl
   have r4:=hob.at' 4 _ rfl
   obtain ⟨i1,i2,i3,i4⟩:=HIS.out
   have hre : r = encs ms:=by rw [← HDR.out,i1,HGE.out,List.drop_length,List.append_nil]
   refine bodyPost_ret (v:=.tuple #[scV t s so d (.slice A1 ms.length cp1),i64 l.length,i64 0]) (by simp [results,Tryz.results48,go_sem,r0,r1,r2,r3,r4]) rfl ⟨_,_,_,rfl,hH5.below, ?_⟩
   exact .ok t s so d r ms A1 cp1 HL.out HR.out (.ok ms i3 i4 hre) (hH5.has 2 _ rfl)
end
section
open Go.RowKit
theorem zHV {W w : World} {l : List Thing} {B : YB} {Y : Yd} {J : Nat → Nat} {n N : Nat} (h : YdL W w l B N Y J n) (hn : n < 1000000) (m : CM) (hf : m.Fit) :
  Calls Tryz.prog 42 #[pt B.yb,m.val] w fun r w' => ∃ a l' J' Y',r = .returned (i64 a) ∧ PDo B N m Y Y' a ∧ YdL W w' l' B N Y' J' (n + 1) ∧ YGo Y Y' l l' J J':=by
 obtain ⟨k,who,ck,ce,x,s,mn⟩:=m
 have HY:=zHe (h.later (zAA (Below.refl w.heap.size w) ((⟨k,who,ck,ce,x,s,mn⟩ : CM).obj 39)))
 have HO:=zHe (IsObj.made w [.int .i64 k,.int .i64 who,.int .i64 ck,.int .i64 ce,.int .u64 x,.int .i64 s,.int .i64 mn] 39)
 have HF:=zHe (show 0 ≤ x ∧ x ≤ 18446744073709551615 from hf)
 have HT:=zHe h.hT
 clear h hf
 unfold CM.val
 simp only
 rcases (by omega : k = 0 ∨ k = 1 ∨ k = 2 ∨ (k ≠ 0 ∧ k ≠ 1 ∧ k ≠ 2)) with rfl | rfl | rfl | ⟨h0,h1,h2⟩
 ·by_cases hw : who < 0 ∨ B.t ≤ who
  ·obtain ⟨v,vd,X,hA⟩:=HY.out.h
   have HA:=zHe hA
   have HW:=zHe hw
   clear hA hw
   go_enter Tryz.func42,Tryz.ntmps42
   go_wp2_with fail
   refine (zDV HA.out who HW.out ck ce x s).mono ?_
   rintro r w' ⟨rfl,hb⟩
   have HZ:=zHe (HY.out.later hb)
   clear hb HA HY HO
   go_wp2
   go_ret
   exact ⟨1,l,J,Y,rfl,.out rfl (HW.out.elim .inl (fun h=>.inr (.inl h))),HZ.out.next hn .rest HZ.out.h,YGo.refl _ _ _⟩
  ·obtain ⟨q,rfl⟩ : ∃ q : Nat,who = q:=⟨who.toNat,by omega⟩
   have hqT : q < B.T:=by have:=HT.out; omega
   by_cases ha : (ck = 0 ∨ ck = 1) ∧ (ce = 0 ∨ ce = 1)
   ·obtain ⟨take,hk⟩ : ∃ take : Bool,kdI take = ck:=by
     rcases ha.1 with h | h
     ·exact ⟨false,h.symm⟩
     ·exact ⟨true,h.symm⟩
    have HK:=zHe hk
    have HAs:=zHe ha
    clear hk ha hw
    go_enter Tryz.func42,Tryz.ntmps42
    go_wp2_with fail
    refine (HY.out.call hn q hqT take HK.out ce x s HAs.out.2 HF.out.1 HF.out.2).mono ?_
    rintro r w' ⟨l',J',Y',hd,hg,h3⟩
    have HD:=zHe hd
    have HG:=zHe hg
    clear hd hg HY HO
    rcases h3 with ⟨rfl,rfl,a,hq⟩ | ⟨rfl,hq,rfl⟩
    ·have HQ:=zHe hq
     clear hq
     go_wp2
     go_ret
     exact ⟨2,l',J',_,rfl,.busy q a rfl rfl HAs.out HQ.out,HD.out,HG.out⟩
    ·have HQ:=zHe hq
     clear hq
     go_wp2
     go_ret
     exact ⟨0,l',J',_,rfl,.call q take rfl rfl HK.out HAs.out.2 HQ.out,HD.out,HG.out⟩
   ·obtain ⟨v,vd,X,hA⟩:=HY.out.h
    have HA:=zHe hA
    have HAs:=zHe ha
    clear hA ha hw
    go_enter Tryz.func42,Tryz.ntmps42
    go_wp2_with fail
    refine (zCF HA.out q hqT ck ce x s HAs.out).mono ?_
    rintro r w' ⟨rfl,hb⟩
    have HZ:=zHe (HY.out.later hb)
    clear hb HA HY HO
    go_wp2
    go_ret
    exact ⟨1,l,J,Y,rfl,.out rfl (.inr (.inr HAs.out)),HZ.out.next hn .rest HZ.out.h,YGo.refl _ _ _⟩
 ·skip
  go_enter Tryz.func42,Tryz.ntmps42
  go_wp2_with fail
  refine (zCK HY.out.cf HY.out.h HY.out.ok hn who).mono ?_
  rintro r w1 ⟨b,l',J',Y',rfl,hl',hg,h3⟩
  have HL:=zHe hl'
  have HG:=zHe hg
  have H3:=zHe h3
  clear hl' hg h3 HO
  cases b with
  | false =>
   go_wp2
   go_ret
   rcases H3.out with ⟨_,h4,h5⟩ | ⟨h4,_⟩
   ·have hL:=HL.out
    have hG:=HG.out
    rw [h4] at hL hG
    exact ⟨5,l',J',Y,rfl,.none rfl h5,HY.out.next hn .rest hL,hG⟩
   ·cases h4
  | true =>
   go_wp2
   go_ret
   rcases H3.out with ⟨h4,_⟩ | ⟨_,k,T,i,z,h5,h6,h7,h8⟩
   ·cases h4
   ·have hL:=HL.out
    have hG:=HG.out
    rw [h8] at hL hG
    exact ⟨0,l',J',_,rfl,.step k T i z rfl h5.symm h6 h7,HY.out.next hn (.step k T i z h6 h7) hL,hG⟩
 ·have n0:=HY.out.ok.now0
  have n1:=HY.out.ok.now1
  obtain ⟨v,vd,X,hA⟩:=HY.out.h
  have HA:=zHe hA
  clear hA
  rcases (by omega : mn ≤ 0 ∨ 0 < mn) with hm0 | hm0
  ·skip
   go_enter Tryz.func42,Tryz.ntmps42
   go_wp2_with fail
   refine (zCe HA.out mn hm0).mono ?_
   rintro r w1 ⟨rfl,rfl⟩
   clear HA HO
   go_wp2
   go_ret
   exact ⟨0,l,J,Y,rfl,.still rfl (by show ¬ 0 < mn; omega),HY.out.next hn .rest HY.out.h,YGo.refl _ _ _⟩
  ·skip
   go_enter Tryz.func42,Tryz.ntmps42
   go_wp2_with fail
   refine (zBf HA.out mn hm0 n0 n1).mono ?_
   rintro r w1 ⟨rfl,l',hl',hle,hke⟩
   have HL:=zHe hl'
   have HG : Hid (YGo Y (Y.pass mn) l l' J J):=zHe (zF2 hle hke)
   clear hl' hle hke HA HO
   go_wp2
   go_ret
   exact ⟨0,l',J,_,rfl,.pass rfl hm0,HY.out.next hn (.pass mn hm0) ⟨_,_,_,HL.out⟩,HG.out⟩
 ·have e0 : (k == 0) = false:=beq_false_of_ne h0
  have e1 : (k == 1) = false:=beq_false_of_ne h1
  have e2 : (k == 2) = false:=beq_false_of_ne h2
  have H0:=zHe (And.intro h0 (And.intro h1 h2))
  clear h0 h1 h2 HO
  go_enter Tryz.func42,Tryz.ntmps42
  go_wp2_with fail
  go_ret
  exact ⟨1,l,J,Y,rfl,.other H0.out.1 H0.out.2.1 H0.out.2.2,HY.out.next hn .rest HY.out.h,YGo.refl _ _ _⟩
section
variable {W w w' : World} {l l' : List Thing} {B : YB} {Y Y' : Yd} {J J' : Nat → Nat} {n n' N : Nat}
theorem YdL.turnRow (h : YdL W w l B N Y J n) {j : Nat} {A A' : Thing} (hr : Rest Y l J j A) (hl : Hold W w' (l.set j A')) : YdL W w' (l.set j A') B N Y J n ∧ Rest Y (l.set j A') J j A' :=
 ⟨⟨h.h.other hl (fun i C hi hf=>by rw [List.getElem?_set_ne (fun e=>by subst e; exact hf hr.free)]; exact hi),h.ok,h.len,h.cf,h.hT⟩,List.getElem?_set_self (List.getElem?_eq_some_iff.1 hr.at').1,hr.free⟩
end
theorem IsObj.rowOf {w : World} {base g n : Nat} {e : TypeId} {xs : List Value} (h : w.ownsRow base e 1 (.slice (some ⟨g,0,none⟩) n n) n xs) (hl : xs.length = n) : IsObj w g xs :=
 ⟨fun j x hj=>by rw [h.cellAt j (by have:=(List.getElem?_eq_some_iff.1 hj).1; omega)]; exact hj,fun o=>h.frozenAt o,(h.lt g rfl).2⟩
theorem zCr : ElemAt Tryz.prog 42 43 (.int .i64 0) 1 8:=ElemAt.mk' Tryz.underlying42 (by kernel_rfl) rfl (by decide)
theorem zEP (n : Nat) : (madeCells (Value.int .i64 0).cells (n * 1)).toList = List.replicate n (Value.int .i64 0):=by
 rw [Nat.mul_one]
 exact toList_madeCells_one (.int .i64 0) n
def ansL (A : List Int) (n : Nat) : List Value:=A.map (fun a=>.int .i64 a) ++ List.replicate (n - A.length) (.int .i64 0)
theorem zGt (A : List Int) (n : Nat) (a : Int) (h : A.length < n) : (ansL A n).set A.length (.int .i64 a) = ansL (A ++ [a]) n:=by
 unfold ansL
 rw [List.set_append_right _ _ (by rw [List.length_map]; exact Nat.le_refl _),List.length_map,Nat.sub_self,List.map_append,List.append_assoc,List.length_append,List.length_singleton,show n - A.length = (n - (A.length + 1)) + 1 by omega,List.replicate_succ]
 rfl
theorem zEu (A : List Int) : ansL A A.length = A.map (fun a=>.int .i64 a):=by
 unfold ansL
 rw [Nat.sub_self]
 exact List.append_nil _
structure PRn (W w : World) (l : List Thing) (B : YB) (N : Nat) (S : List CM) (Yf : Nat → Yd) (A : List Int) (J : Nat → Nat) (g : Nat) : Prop where
 yd : YdL W w l B N (Yf S.length) J S.length
 tr : PTr B N S Yf A
 row : Rest (Yf S.length) l J 4 (tObj W.heap.size g (A.map (fun a=>.int .i64 a)))
theorem zBh {t s so d : Int} (h : rightC t s so d = true) : ∃ T N : Nat,t = T ∧ Lay T s N ∧ 0 ≤ so ∧ so ≤ 4 ∧ 0 ≤ d ∧ d ≤ 100:=by
 obtain ⟨h1,h2,h3,h4,h5,h6,h7,h8⟩:=of_decide_eq_true h
 have hl:=Lay.mk' h1 h2 h3 h4
 obtain ⟨T,rfl⟩ : ∃ T : Nat,t = T:=⟨t.toNat,by omega⟩
 obtain ⟨N,hN⟩ : ∃ N : Nat,(T : Int) * s = N:=⟨((T : Int) * s).toNat,by have:=hl.n1; omega⟩
 rw [hN] at hl
 exact ⟨T,N,rfl,hl,h5,h6,h7,h8⟩
theorem zE9 {S : List CM} {i : Nat} {m : CM} (h : S[i]? = some m) : S.take (i + 1) = S.take i ++ [m]:=by rw [List.take_add_one,h]; rfl
theorem zBy (T : Nat) (s so d : Int) (N : Nat) (A : Option Addr) (cap : Nat) (S : List CM) (w : World) (hS : IsAt w A (flatM S)) (hf : ∀ m ∈ S,m.Fit) (hn : S.length < 900000) (hl : Lay T s N) (o0 : 0 ≤ so) (o1 : so ≤ 4) (d0 : 0 ≤ d) (d1 : d ≤ 100) :
  Calls Tryz.prog 11 #[scV T s so d (.slice A S.length cap)] w fun r w' => ∃ W l yb ytb p c Yf An J g,r = .returned (.tuple #[pt yb,.slice (some ⟨g,0,none⟩) S.length S.length,i64 0]) ∧ Below w.heap.size w W ∧ PRn W w' l ⟨yb,ytb,p,c,T,s,so,d,T⟩ N S Yf An J g:=by
 have hB0:=zAA (Below.refl w.heap.size w) (.cells #[.int .i64 T,.int .i64 s,.int .i64 so,.int .i64 d,.slice A S.length cap] 29)
 have HS:=zHe (hS.later hB0)
 have HSO:=zHe (IsObj.made w [.int .i64 T,.int .i64 s,.int .i64 so,.int .i64 d,.slice A S.length cap] 29)
 have HB:=zHe hB0
 have HF:=zHe hf
 have HLAY:=zHe hl
 obtain ⟨n,hne⟩ : ∃ n,S.length = n:=⟨_,rfl⟩
 rw [hne] at hn HSO HB HS ⊢
 have HN:=zHe hne
 clear hS hf hl hB0 hne
 unfold scV
 go_enter Tryz.func11,Tryz.ntmps11
 go_wp2_with fail
 generalize w.alloc (.cells #[.int .i64 T,.int .i64 s,.int .i64 so,.int .i64 d,.slice A n cap] 29) = W at HS HSO HB ⊢
 refine (zC5 (W:=W) T s so d N (Below.refl _ _) HLAY.out o0 o1 d0 d1).mono ?_
 rintro r w3 ⟨yb,ytb,p,c,l0,rfl,hl4,hY,hb,hyb⟩
 have HD0:=zHe (YdL.start HLAY.out o0 o1 d0 d1 hY)
 have HL4:=zHe hl4
 clear hY hb hyb hl4
 have q4:=(HSO.out.later HD0.out.h.below).at' 4 _ rfl
 obtain ⟨im,hm1,hm2,hm3,hm4⟩:=zCr.info
 go_wp2_with (at_make; refine wpList_make_full _ rfl _ _ 42 rfl W.heap.size 43 im (.int .i64 0) 1 zCr.und hm1 hm2 hm3 .i64 .i64 _ _ n rfl rfl rfl rfl (by rw [hm4]; omega) (by unfold maxLen; omega) HD0.out.h.size ?_; intro w4 hown hg; rw [zEP] at hown; have hown2 : w4.ownsRow W.heap.size 43 1 (.slice (some ⟨w3.heap.size,0,none⟩) n n) n (ansL [] n):=hown; have HD1:=zHe (HD0.out.more (A:=tObj W.heap.size w3.heap.size (ansL [] n)) ((Below.refl _ _).grown hg (Nat.le_refl _) (fun k hk=>by cases hk)) (zAT W.heap.size _ _) ⟨IsObj.rowOf hown2 (by unfold ansL; simp),HD0.out.h.size⟩ (fun q hq=>by cases hq; exact Nat.le_refl _)); have R4:=zHe (HD0.out.rest (tObj W.heap.size w3.heap.size (ansL [] n))); clear hown hown2 hg q4; have q4:=(HSO.out.later HD1.out.h.below).at' 4 _ rfl)
 clear im hm1 hm2 hm3 hm4 HD0
 generalize w3.heap.size = g at HD1 R4 ⊢
 have HR0 : Hid (Rest (yd0 N T) (l0 ++ [tObj W.heap.size g (ansL [] n)]) (fun _=>0) 4 (tObj W.heap.size g (ansL [] n))):=zHe (by have h:=R4.out; rw [HL4.out] at h; exact h)
 have HP0 : Hid (PTr ⟨yb,ytb,p,c,T,s,so,d,T⟩ N (S.take 0) (fun _=>yd0 N T) []):=zHe (PTr.start ⟨HLAY.out,o0,o1,d0,d1⟩ rfl)
 clear R4 HL4
 go_loopw [26] (fun ix wr => ∃ (i : Nat) (l : List Thing) (Y : Nat → Yd) (J : Nat → Nat) (An : List Int),i ≤ n ∧ ix = .int .i64 i ∧ Hid (YdL W wr l ⟨yb,ytb,p,c,T,s,so,d,T⟩ N (Y i) J i) ∧ Hid (PTr ⟨yb,ytb,p,c,T,s,so,d,T⟩ N (S.take i) Y An) ∧ Hid (Rest (Y i) l J 4 (tObj W.heap.size g (ansL An n)))) (fun ix _=>n - (RowKit.intOf ix).toNat)
 case atStart=>exact ⟨0,_,(fun _=>yd0 N T),_,[],Nat.zero_le _,rfl,HD1,HP0,HR0⟩
 case round =>
  clear HD1 HP0 HR0
  obtain ⟨i,l,Y,J,An,hin,rfl,HD,HP,HR⟩:=hrel
  rcases Nat.lt_or_ge i n with hi | hi
  ·have hi' : (i : Int) < (n : Int):=by omega
   have hiS : i < S.length:=by have:=HN.out; omega
   obtain ⟨m,hm⟩ : ∃ m,S[i]? = some m:=⟨_,List.getElem?_eq_getElem hiS⟩
   have HM:=zHe (List.mem_of_getElem? hm)
   have HTS:=zHe (zE9 hm)
   obtain ⟨b,off,rfl,hbl,hc⟩:=HS.out.move hm
   have hW1:=HD.out.h.below
   have e0:=(hW1.cell (p:=⟨b,off + i * 7,none⟩) hbl).trans hc.c0
   have e1:=(hW1.cell (p:=⟨b,off + i * 7 + 1,none⟩) hbl).trans hc.c1
   have e2:=(hW1.cell (p:=⟨b,off + i * 7 + 2,none⟩) hbl).trans hc.c2
   have e3:=(hW1.cell (p:=⟨b,off + i * 7 + 3,none⟩) hbl).trans hc.c3
   have e4:=(hW1.cell (p:=⟨b,off + i * 7 + 4,none⟩) hbl).trans hc.c4
   have e5:=(hW1.cell (p:=⟨b,off + i * 7 + 5,none⟩) hbl).trans hc.c5
   have e6:=(hW1.cell (p:=⟨b,off + i * 7 + 6,none⟩) hbl).trans hc.c6
   have HD2:=zHe (HD.out.later (zAA (Below.refl wr.heap.size wr) (m.obj 39)))
   clear hW1 hc hm hiS
   go_wp2_with fail
   refine (zHV HD2.out (by omega) m (HF.out m HM.out)).mono ?_
   rintro r w4 ⟨a,l1,J1,Y1,rfl,hdo,hd,hg⟩
   have HD1:=zHe hd
   have HR1:=zHe (HR.out.go hg)
   have hlt : (S.take i).length = i:=by rw [List.length_take]; have:=HN.out; omega
   have hP1:=HP.out.snoc (m:=m) (a:=a) (Z:=Y1) (by rw [hlt]; exact hdo) hd.h.fit (HF.out m HM.out) (by rw [hlt]; omega)
   rw [hlt, ← HTS.out] at hP1
   have hAl : An.length = i:=HP.out.len.trans hlt
   obtain ⟨Y2,hY2,HP2⟩ : ∃ Y2 : Nat → Yd,Y2 (i + 1) = Y1 ∧ Hid (PTr ⟨yb,ytb,p,c,T,s,so,d,T⟩ N (S.take (i + 1)) Y2 (An ++ [a])):=⟨_,if_neg (by omega),zHe hP1⟩
   have hO:=(HD1.out.has HR1.out : IsObj w4 g (ansL An n) ∧ W.heap.size ≤ g).1
   have HST:=zHe (HD1.out.h.hold.objSet 4 HR1.out.at' i (.int .i64 a))
   have hset : (ansL An n).set i (.int .i64 a) = ansL (An ++ [a]) n:=by rw [← hAl]; exact zGt An n a (by omega)
   have HSE:=zHe hset
   obtain ⟨uu,huu⟩ : ∃ uu,(ansL An n)[i]? = some uu:=⟨_,List.getElem?_eq_getElem (by unfold ansL; rw [List.length_append,List.length_map,List.length_replicate]; omega)⟩
   have c9:=hO.at' i _ huu
   have f9:=hO.fz i
   have HY2:=zHe hY2
   clear hO hset huu hAl hP1 hlt hdo hd hg hY2 e0 e1 e2 e3 e4 e5 e6 HD HD2 HP HR HTS HM
   go_wp2_with fail
   obtain ⟨hD3,hR3⟩:=HD1.out.turnRow HR1.out (by have h:=HST.out; rw [HSE.out] at h; exact h)
   have HD3:=zHe hD3
   have HR3:=zHe hR3
   clear hD3 hR3
   go_roundw
   case rel=>exact ⟨i + 1,_,Y2,J1,An ++ [a],by omega,by go_num,zHe (by rw [HY2.out]; exact HD3.out),HP2,zHe (by rw [HY2.out]; exact HR3.out)⟩
   case measure=>first | omega | (simp [RowKit.intOf]; done) | (simp [RowKit.intOf]; omega)
  ·obtain rfl : i = n:=by omega
   have hnn : ¬ (i : Int) < (i : Int):=by omega
   clear HS hi hin
   go_wp2_with fail
   have hlen:=HN.out
   subst hlen
   have hP:=HP.out
   rw [List.take_length] at hP
   have hR:=HR.out
   rw [← hP.len,zEu] at hR
   exact bodyPost_ret (v:=.tuple #[pt yb,.slice (some ⟨g,0,none⟩) S.length S.length,i64 0]) (by simp [results,Tryz.results11,go_sem]) rfl ⟨W,l,yb,ytb,p,c,Y,An,J,g,rfl,HB.out,HD.out,hP,by rw [← hP.len]; exact hR⟩
end
section
open Go.RowKit
def WSame (N : Nat) (C C' : List Int) : Prop:=∀ j,j < N → C'.getD j 0 = C.getD j 0
theorem WSame.refl (N : Nat) (C : List Int) : WSame N C C:=fun _ _=>rfl
theorem WSame.set {N i : Nat} (C : List Int) (x : Int) (h : N ≤ i) : WSame N C (C.set i x):=fun j hj=>zAI x (by omega)
section
variable {k : Sn} {C C' : List Int} {N st r P B : Nat} {last : Int}
theorem QInv.same (h : QInv k C N st r P B last) (e : WSame N C C') : QInv k C' N st r P B last :=
 have hN : 0 < N:=by have:=h.at'.r1; omega
 ⟨h.at',h.ph,fun hl q hq=>(h.a hl q hq).trans (e _ (Nat.mod_lt _ hN)).symm,fun hP hl=>⟨fun j hj=>((h.b hP hl).1 j hj).trans (e j hj).symm,(h.b hP hl).2⟩,h.c1,h.c2,h.c3,h.l⟩
theorem QInv.sure (h : QInv k C N st r P B last) (hr : r + 1 = N) (hP : 1 ≤ P) (hl : last < (P : Int) - 1) : (k.step C).ph = 1:=by
 obtain ⟨m1,m3,m4,m6,m7⟩:=h.at'.last (C:=C) h.ph hr
 obtain ⟨b1,b2⟩:=h.b hP hl
 rw [m7,if_pos]
 refine ⟨hP, ?_⟩
 rw [b2,b1 _ h.at'.slot_lt]
 simp
end
def GLeft (N : Nat) (k : Ge) (C : List Int) (m : Nat) : Prop :=
 (k.ta = none ∧ ∃ (st r P B : Nat) (last : Int),QInv k.sn C N st r P B last ∧ (3 * N + 10 ≤ m + r ∨ (last ≠ (P : Int) ∧ (P = 0 ∨ last = (P : Int) - 1) ∧ 2 * N + 5 ≤ m + r) ∨ (1 ≤ P ∧ last < (P : Int) - 1 ∧ N + 5 ≤ m + r))) ∨
 (∃ a,k.ta = some a ∧ ((a.lost = false ∧ (a.next ≤ 3 → C.getD a.slot.toNat 0 = a.word) ∧ (5 : Int) ≤ m + a.next) ∨ (2 * N + 10 : Int) ≤ m + a.next))
section
variable {k : Ge} {C C' : List Int} {N hz m m' : Nat} {z : Int}
theorem GLeft.same (h : GLeft N k C m) (hk : k.Ok N hz C) (hp : k.ph = 0) (e : WSame N C C') : GLeft N k C' m:=by
 rcases h with ⟨h1,st,r,P,B,last,h2,h3⟩ | ⟨a,h1,h2⟩
 ·exact .inl ⟨h1,st,r,P,B,last,h2.same e,h3⟩
 ·refine .inr ⟨a,h1, ?_⟩
  rcases h2 with ⟨h2,h3,h4⟩ | h2
  ·have ho:=(hk.ta hp a h1).1
   have h0:=ho.s0
   have h9:=ho.s1
   exact .inl ⟨h2,fun h=>(e _ (by omega)).trans (h3 h),h4⟩
  ·exact .inr h2
theorem GLeft.turn (h : GLeft N k C m) (C' : List Int) (hk : k.Ok N hz C) (hp : k.ph = 0) : GLeft N k C' (4 * N + 10):=by
 rcases h with ⟨h1,st,r,P,B,last,h2,h3⟩ | ⟨a,h1,h2⟩
 ·exact .inl ⟨h1,st,r,P,_,_,h2.store C',.inl (by omega)⟩
 ·obtain ⟨ho,ha⟩:=hk.ta hp a h1
  have:=ho.st ha
  exact .inr ⟨a,h1,.inr (by omega)⟩
theorem GLeft.start {t s so d who e start : Int} (hl : Lay t s N) : GLeft N (ge0 t s so d who e start N) C (4 * N + 10):=by
 have hn1:=hl.n1
 have ht1:=hl.t1
 have hn2:=hl.n2
 obtain ⟨m1,m2,m5,m3,m4⟩:=zA9 start N (by omega) (by omega)
 obtain ⟨st,hst⟩ : ∃ st : Nat,IntKind.u64.wrap start % N = (st : Int):=⟨_,(Int.toNat_of_nonneg m3).symm⟩
 refine .inl ⟨rfl,st,0,0,0, -1, ?_,.inl (by omega)⟩
 show QInv (sn0 t s so d who (IntKind.u64.wrap start % N) N) C N st 0 0 0 (-1)
 rw [hst]
 exact QInv.start t s so d who C N st 0 (by omega)
theorem GLeft.step (h : GLeft N k C m) (hk : k.Ok N hz C) (hp : k.ph = 0) (ha : k.ask C z) : 1 ≤ m ∧ ((k.step N hz C z).ph ≠ 0 ∨ GLeft N (k.step N hz C z) (k.cells N hz C) (m - 1)):=by
 have hn1:=hk.lay.n1
 have ht1:=hk.lay.t1
 have hn2:=hk.lay.n2
 have hzz:=hk.hzz
 have w0:=hk.w0
 have w1:=hk.w1
 have hlen:=hk.len
 have hnp : ¬ k.ph ≠ 0:=by omega
 rcases h with ⟨hta,st,r,P,B,last,hq,h3⟩ | ⟨a,hta,h2⟩
 ·have e1 : k.step N hz C z = k.read (k.sn.step C) z:=by unfold Ge.step; rw [if_neg hnp,hta]
  have e2 : k.cells N hz C = C:=by unfold Ge.cells; rw [if_neg hnp,hta]
  have hr1:=hq.at'.r1
  have hl:=hq.l
  rw [e2]
  refine ⟨by omega, ?_⟩
  rcases (by omega : r + 1 < N ∨ r + 1 = N) with hr | hr
  ·have hm:=hq.mid hr
   have e3 : k.step N hz C z = { k with sn:=k.sn.step C }:=by
    rw [e1]
    unfold Ge.read
    rw [if_pos (by rw [hm.ph]; decide)]
   rw [e3]
   refine .inr (.inl ⟨hta,st,r + 1,P,B,last,hm, ?_⟩)
   rcases h3 with h3 | ⟨h3,h4,h5⟩ | ⟨h3,h4,h5⟩
   ·exact .inl (by omega)
   ·exact .inr (.inl ⟨h3,h4,by omega⟩)
   ·exact .inr (.inr ⟨h3,h4,by omega⟩)
  ·rcases hq.last hr with hm | hm
   ·have e3 : k.step N hz C z = { k with sn:=k.sn.step C }:=by
     rw [e1]
     unfold Ge.read
     rw [if_pos (by rw [hm.ph]; decide)]
    rw [e3]
    refine .inr (.inl ⟨hta,st,0,P + 1,B,last,hm, ?_⟩)
    rcases h3 with h3 | ⟨h3,h4,h5⟩ | ⟨h3,h4,h5⟩
    ·by_cases hlp : last = (P : Int)
     ·exact .inr (.inl ⟨by omega,.inr (by omega),by omega⟩)
     ·exact .inr (.inr ⟨by omega,by omega,by omega⟩)
    ·exact .inr (.inr ⟨by omega,by omega,by omega⟩)
    ·have:=hq.sure hr h3 h4
     rw [hm.ph] at this
     exact absurd this (by decide)
   ·have hd:=hm.ph
    by_cases hz0 : z < 0
    ·have e3 : k.step N hz C z = { k with sn:=k.sn.step C,ph:=2 }:=by
      rw [e1]
      unfold Ge.read
      rw [if_neg (fun h=>h hd),if_pos hz0]
     rw [e3]
     exact .inl (by show (2 : Int) ≠ 0; decide)
    ·have e3 : k.step N hz C z = { k with sn:=k.sn.step C,ta:=some (ta0 k.t k.s k.so k.d k.who z ((k.sn.step C).X.getD z.toNat 0)) }:=by
      rw [e1]
      unfold Ge.read
      rw [if_neg (fun h=>h hd),if_neg hz0]
     have hE:=ha hp hta hd
     have hzN : z.toNat < N:=by
      rcases hE with ⟨hz1,_⟩ | ⟨j,rfl,hj,_⟩
      ·omega
      ·have:=hm.at'.X
       rw [Int.toNat_natCast]
       omega
     rw [e3]
     refine .inr (.inr ⟨_,rfl, ?_⟩)
     show (false = false ∧ ((0 : Int) ≤ 3 → C.getD z.toNat 0 = (k.sn.step C).X.getD z.toNat 0) ∧ (5 : Int) ≤ (m - 1 : Nat) + 0) ∨ (2 * N + 10 : Int) ≤ (m - 1 : Nat) + 0
     rcases h3 with h3 | ⟨h3,h4,h5⟩ | ⟨h3,h4,h5⟩
     ·exact .inr (by omega)
     ·exact .inl ⟨rfl,fun _=>(hm.x (by omega) _ hzN).symm,by omega⟩
     ·exact .inl ⟨rfl,fun _=>(hm.x (by omega) _ hzN).symm,by omega⟩
 ·obtain ⟨ho,ap⟩:=hk.ta hp a hta
  have s0:=ho.s0
  have s1:=ho.s1
  have e1 : k.step N hz C z = k.grab N (a.go a.slot.toNat (N + a.slot.toNat) C):=by unfold Ge.step; rw [if_neg hnp,hta]
  have e2 : k.cells N hz C = a.cells a.slot.toNat hz C:=by unfold Ge.cells; rw [if_neg hnp,hta]
  have on : ∀ a' : Ta,a.go a.slot.toNat (N + a.slot.toNat) C = a' → a'.ph = 0 → k.step N hz C z = { k with ta:=some a' }:=fun a' g hp'=>by
   rw [e1,g]
   unfold Ge.grab
   rw [if_neg (by omega),if_neg (by omega)]
  rcases ho.st ap with ⟨hn,hl⟩ | ⟨hn,hl⟩ | ⟨hn,hl⟩ | ⟨hn,hl⟩ | hn
  ·obtain ⟨g1,g2,g3⟩:=go_0 (j:=a.slot.toNat) (jv:=N + a.slot.toNat) (hz:=hz) (C:=C) ap hn
   rw [on _ g1 ap,e2,g2]
   refine ⟨by omega,.inr (.inr ⟨_,rfl, ?_⟩)⟩
   rcases h2 with ⟨h2,h3,h4⟩ | h2
   ·exact .inl ⟨hl,fun _=>by show (C.set hz _).getD a.slot.toNat 0 = a.word; exact (zAI _ (by omega)).trans (h3 (by omega)),by show (5 : Int) ≤ (m - 1 : Nat) + 1; omega⟩
   ·exact .inr (by show (2 * N + 10 : Int) ≤ (m - 1 : Nat) + 1; omega)
  ·by_cases hw : C.getD a.slot.toNat 0 = a.word
   ·obtain ⟨g1,g2,g3⟩:=go_1y (jv:=N + a.slot.toNat) (hz:=hz) ap hn hw
    rw [on _ g1 ap,e2,g2]
    refine ⟨by omega,.inr (.inr ⟨_,rfl, ?_⟩)⟩
    rcases h2 with ⟨h2,h3,h4⟩ | h2
    ·exact .inl ⟨hl,fun _=>hw,by show (5 : Int) ≤ (m - 1 : Nat) + 2; omega⟩
    ·exact .inr (by show (2 * N + 10 : Int) ≤ (m - 1 : Nat) + 2; omega)
   ·obtain ⟨g1,g2,g3⟩:=go_1n (jv:=N + a.slot.toNat) (hz:=hz) ap hn hw
    rw [on _ g1 ap,e2,g2]
    rcases h2 with ⟨h2,h3,h4⟩ | h2
    ·exact absurd (h3 (by omega)) hw
    ·exact ⟨by omega,.inr (.inr ⟨_,rfl,.inr (by show (2 * N + 10 : Int) ≤ (m - 1 : Nat) + 4; omega)⟩)⟩
  ·obtain ⟨g1,g2,g3⟩:=go_2 (j:=a.slot.toNat) (jv:=N + a.slot.toNat) (hz:=hz) (C:=C) ap hn
   rw [on _ g1 ap,e2,g2]
   refine ⟨by omega,.inr (.inr ⟨_,rfl, ?_⟩)⟩
   rcases h2 with ⟨h2,h3,h4⟩ | h2
   ·exact .inl ⟨hl,fun _=>h3 (by omega),by show (5 : Int) ≤ (m - 1 : Nat) + 3; omega⟩
   ·exact .inr (by show (2 * N + 10 : Int) ≤ (m - 1 : Nat) + 3; omega)
  ·by_cases hw : C.getD a.slot.toNat 0 = a.word
   ·obtain ⟨g1,g2,g3⟩:=go_3y (jv:=N + a.slot.toNat) (hz:=hz) ap hn hw
    rw [on _ g1 ap,e2,g2]
    refine ⟨by omega,.inr (.inr ⟨_,rfl, ?_⟩)⟩
    rcases h2 with ⟨h2,h3,h4⟩ | h2
    ·exact .inl ⟨hl,fun h=>absurd h (by show ¬ (4 : Int) ≤ 3; decide),by show (5 : Int) ≤ (m - 1 : Nat) + 4; omega⟩
    ·exact .inr (by show (2 * N + 10 : Int) ≤ (m - 1 : Nat) + 4; omega)
   ·obtain ⟨g1,g2,g3⟩:=go_3n (jv:=N + a.slot.toNat) (hz:=hz) ap hn hw
    rw [on _ g1 ap,e2,g2]
    rcases h2 with ⟨h2,h3,h4⟩ | h2
    ·exact absurd (h3 (by omega)) hw
    ·exact ⟨by omega,.inr (.inr ⟨_,rfl,.inr (by show (2 * N + 10 : Int) ≤ (m - 1 : Nat) + 4; omega)⟩)⟩
  ·by_cases hl : a.lost = true
   ·obtain ⟨g1,g2,g3⟩:=go_4n (j:=a.slot.toNat) (jv:=N + a.slot.toNat) (hz:=hz) (C:=C) ap hn hl
    have e3 : k.step N hz C z = { k with tries:=k.tries + 1,sn:=sn0 k.t k.s k.so k.d k.who (IntKind.u64.wrap k.start % N) N,ta:=none }:=by
     rw [e1,g1]
     unfold Ge.grab
     rw [if_neg (by show ¬ (2 : Int) = 1; decide),if_pos rfl]
    rw [e3,e2,g2]
    rcases h2 with ⟨h2,_⟩ | h2
    ·rw [hl] at h2
     cases h2
    ·obtain ⟨m1,m2,m5,m3,m4⟩:=zA9 k.start N (by omega) (by omega)
     obtain ⟨st,hst⟩ : ∃ st : Nat,IntKind.u64.wrap k.start % N = (st : Int):=⟨_,(Int.toNat_of_nonneg m3).symm⟩
     refine ⟨by omega,.inr (.inl ⟨rfl,st,0,0,0, -1, ?_,.inr (.inl ⟨by decide,.inl rfl,by omega⟩)⟩)⟩
     show QInv (sn0 k.t k.s k.so k.d k.who (IntKind.u64.wrap k.start % N) N) _ N st 0 0 0 (-1)
     rw [hst]
     exact QInv.start _ _ _ _ _ _ N st 0 (by omega)
   ·have hl' : a.lost = false:=by simpa using hl
    obtain ⟨g1,g2,g3⟩:=go_4y (j:=a.slot.toNat) (jv:=N + a.slot.toNat) (hz:=hz) (C:=C) ap hn hl'
    have e3 : k.step N hz C z = { k with ta:=some { a with next:=5,ph:=1 },ph:=1 }:=by
     rw [e1,g1]
     unfold Ge.grab
     rw [if_pos rfl]
    rw [e3]
    exact ⟨by rcases h2 with ⟨_,_,h4⟩ | h2 <;> omega,.inl (by show (1 : Int) ≠ 0; decide)⟩
end
theorem zFB {nb N : Nat} {k : Tk} {C : List Int} {now : Int} (h : N ≤ nb) : WSame N C (stp nb k C now).2.1:=by
 have h0 : ∀ x,WSame N C (C.set nb x):=fun x=>WSame.set C x h
 have h1 : ∀ x,WSame N C (C.set (nb + k.who.toNat) x):=fun x=>WSame.set C x (by omega)
 have h2 : WSame N C C:=WSame.refl N C
 unfold stp
 repeat' split
 all_goals first | exact h0 _ | exact h1 _ | exact h2
def WTurn (N : Nat) (T T' : Wk) (E : List Ev) : Prop :=
 (∃ e,E = [e] ∧ 0 ≤ e.cell ∧ e.cell < N ∧ (e.op = 1 ∨ (e.op = 2 ∧ e.ok = true))) ∧ (T'.ph = 1 ∨ ∃ k a,T' = .ge k ∧ k.ph = 0 ∧ k.ta = some a ∧ a.next = 4 ∧ a.lost = false)
def Wk.last (T : Wk) : Prop := ∃ k a,T = .ge k ∧ k.ph = 0 ∧ k.ta = some a ∧ a.next = 4 ∧ a.lost = false
theorem Wk.words {T : Wk} {P : Pl} {C : List Int} {now z : Int} (h : T.Ok P C) (hp : T.ph = 0) : WSame P.N C (T.cells P C now) ∨ WTurn P.N T (T.step P C now z) (T.ev P C now):=by
 cases T with
 | pu k =>
  have h1 : k.Ok P.N P.m P.nb P.h0 C:=h
  have hp0 : k.ph = 0:=hp
  have hnp : ¬ k.ph ≠ 0:=by omega
  have s0:=h1.cl.s0; have s1:=h1.cl.s1; have m0:=h1.cl.m0; have m1:=h1.cl.m1; have nt:=h1.tk.nt; have t1:=h1.cl.lay.t1; have ct:=h1.ct; have tt:=h1.tt
  show WSame P.N C (k.cells P.N P.nb C now) ∨ WTurn P.N (.pu k) (.pu (k.step P.m P.nb P.h0 C now)) (k.ev P.N P.nb P.h0 C now)
  rcases h1.at' hp0 with ⟨a,_,_⟩ | ⟨a,_,_⟩ | ⟨a,_,_⟩ | ⟨a,_,_⟩
  ·refine .inl ?_
   unfold Pu.cells
   rw [if_neg hnp,if_pos a]
   exact WSame.refl _ _
  ·refine .inl ?_
   unfold Pu.cells
   rw [if_neg hnp,if_neg (by omega),if_pos a]
   exact zFB (by omega)
  ·refine .inl ?_
   unfold Pu.cells
   rw [if_neg hnp,if_neg (by omega),if_neg (by omega),if_pos a]
   exact WSame.set _ _ (by omega)
  ·refine .inr ⟨?_,.inl ?_⟩
   ·unfold Pu.ev
    rw [if_neg hnp,if_neg (by omega),if_neg (by omega),if_neg (by omega)]
    exact ⟨_,rfl,by show (0 : Int) ≤ (k.cl.slot.toNat : Nat); omega,by show ((k.cl.slot.toNat : Nat) : Int) < P.N; omega,.inl rfl⟩
   ·show (k.step P.m P.nb P.h0 C now).ph = 1
    unfold Pu.step
    rw [if_neg hnp,if_neg (by omega),if_neg (by omega),if_neg (by omega)]
 | ge k =>
  have h1 : k.Ok P.N P.hw C:=h.1
  have hp0 : k.ph = 0:=hp
  have hnp : ¬ k.ph ≠ 0:=by omega
  have hzz:=h1.hzz
  have w0:=h1.w0
  show WSame P.N C (k.cells P.N P.hw C) ∨ WTurn P.N (.ge k) (.ge (k.step P.N P.hw C z)) (k.ev P.N P.hw C)
  cases hta : k.ta with
  | none =>
   refine .inl ?_
   have e2 : k.cells P.N P.hw C = C:=by unfold Ge.cells; rw [if_neg hnp,hta]
   rw [e2]
   exact WSame.refl _ _
  | some a =>
   obtain ⟨ho,ap⟩:=h1.ta hp0 a hta
   have s0:=ho.s0
   have s1:=ho.s1
   have e1 : k.step P.N P.hw C z = k.grab P.N (a.go a.slot.toNat (P.N + a.slot.toNat) C):=by unfold Ge.step; rw [if_neg hnp,hta]
   have e2 : k.cells P.N P.hw C = a.cells a.slot.toNat P.hw C:=by unfold Ge.cells; rw [if_neg hnp,hta]
   have e3 : k.ev P.N P.hw C = a.ev a.slot.toNat (P.N + a.slot.toNat) P.hw C:=by unfold Ge.ev; rw [if_neg hnp,hta]
   rw [e2]
   rcases ho.st ap with ⟨hn,hl⟩ | ⟨hn,hl⟩ | ⟨hn,hl⟩ | ⟨hn,hl⟩ | hn
   ·rw [(go_0 (j:=a.slot.toNat) (jv:=P.N + a.slot.toNat) (hz:=P.hw) (C:=C) ap hn).2.1]
    exact .inl (WSame.set _ _ (by omega))
   ·by_cases hw : C.getD a.slot.toNat 0 = a.word
    ·rw [(go_1y (jv:=P.N + a.slot.toNat) (hz:=P.hw) ap hn hw).2.1]
     exact .inl (WSame.refl _ _)
    ·rw [(go_1n (jv:=P.N + a.slot.toNat) (hz:=P.hw) ap hn hw).2.1]
     exact .inl (WSame.refl _ _)
   ·rw [(go_2 (j:=a.slot.toNat) (jv:=P.N + a.slot.toNat) (hz:=P.hw) (C:=C) ap hn).2.1]
    exact .inl (WSame.refl _ _)
   ·by_cases hw : C.getD a.slot.toNat 0 = a.word
    ·obtain ⟨g1,g2,g3⟩:=go_3y (jv:=P.N + a.slot.toNat) (hz:=P.hw) ap hn hw
     refine .inr ⟨⟨_,e3.trans g3,by show (0 : Int) ≤ (a.slot.toNat : Nat); omega,by show ((a.slot.toNat : Nat) : Int) < P.N; omega,.inr ⟨rfl,rfl⟩⟩,.inr ⟨{ k with ta:=some { a with next:=4 } }, { a with next:=4 }, ?_,hp0,rfl,rfl,hl⟩⟩
     rw [e1,g1]
     unfold Ge.grab
     rw [if_neg (by show ¬ a.ph = 1; omega),if_neg (by show ¬ a.ph = 2; omega)]
    ·rw [(go_3n (jv:=P.N + a.slot.toNat) (hz:=P.hw) ap hn hw).2.1]
     exact .inl (WSame.refl _ _)
   ·by_cases hl : a.lost = true
    ·rw [(go_4n (j:=a.slot.toNat) (jv:=P.N + a.slot.toNat) (hz:=P.hw) (C:=C) ap hn hl).2.1]
     exact .inl (WSame.set _ _ (by omega))
    ·rw [(go_4y (j:=a.slot.toNat) (jv:=P.N + a.slot.toNat) (hz:=P.hw) (C:=C) ap hn (by simpa using hl)).2.1]
     exact .inl (WSame.set _ _ (by omega))
theorem Wk.last_over {T : Wk} {P : Pl} {C : List Int} {now z : Int} (h : T.Ok P C) (hl : T.last) : (T.step P C now z).ph = 1:=by
 obtain ⟨k,a,rfl,hp,hta,hn,hf⟩:=hl
 have h1 : k.Ok P.N P.hw C:=h.1
 obtain ⟨ho,ap⟩:=h1.ta hp a hta
 show (k.step P.N P.hw C z).ph = 1
 have e1 : k.step P.N P.hw C z = k.grab P.N (a.go a.slot.toNat (P.N + a.slot.toNat) C):=by unfold Ge.step; rw [if_neg (by omega),hta]
 rw [e1,(go_4y (j:=a.slot.toNat) (jv:=P.N + a.slot.toNat) (hz:=0) (C:=C) ap hn hf).1]
 unfold Ge.grab
 rw [if_pos rfl]
def WLeft (P : Pl) (T : Wk) (C : List Int) (m : Nat) : Prop:=match T with
 | .pu k=>k.rem P.m ≤ m
 | .ge k=>GLeft P.N k C m
section
variable {T : Wk} {P : Pl} {C C' : List Int} {now z : Int} {m m' : Nat}
theorem WLeft.same (h : WLeft P T C m) (hk : T.Ok P C) (hp : T.ph = 0) (e : WSame P.N C C') : WLeft P T C' m:=by
 cases T with
 | pu k=>exact h
 | ge k=>exact GLeft.same h hk.1 hp e
theorem WLeft.step (h : WLeft P T C m) (hk : T.Ok P C) (hp : T.ph = 0) (ha : T.ask C z) (n0 : 0 ≤ now) (hf : ∀ j,0 ≤ C.getD j 0) : 1 ≤ m ∧ ((T.step P C now z).ph ≠ 0 ∨ WLeft P (T.step P C now z) (T.cells P C now) (m - 1)):=by
 cases T with
 | pu k =>
  have hk' : k.Ok P.N P.m P.nb P.h0 C:=hk
  have h' : k.rem P.m ≤ m:=h
  have h1:=(hk'.next_ (now:=now) n0 hf).2 hp
  have h2:=Pu.rem_pos hk' hp
  refine ⟨by omega,.inr ?_⟩
  show (k.step P.m P.nb P.h0 C now).rem P.m ≤ (m - 1 : Nat)
  omega
 | ge k=>exact GLeft.step h hk.1 hp ha
end
end
section
open Go.RowKit
def Wk.lim (T : Wk) (N put tn : Nat) : Nat:=match T with
 | .pu _=>put
 | .ge _=>(tn + 1) * (4 * N + 10)
theorem Wk.lim_step (T : Wk) (P : Pl) (C : List Int) (now z : Int) (N put tn : Nat) : (T.step P C now z).lim N put tn = T.lim N put tn:=by
 cases T <;> rfl
theorem Wk.lim_mono (T : Wk) {N put tn tn' : Nat} (h : tn ≤ tn') : T.lim N put tn ≤ T.lim N put tn':=by
 cases T with
 | pu k=>exact Nat.le_refl _
 | ge k=>exact Nat.mul_le_mul_right _ (by omega)
def OLeft (P : Pl) (T : Wk) (C : List Int) (put own tn : Nat) : Prop := ∃ m,WLeft P T C m ∧ m ≤ T.lim P.N put 0 ∧ own + m ≤ T.lim P.N put tn
section
variable {P : Pl} {T : Wk} {C C' : List Int} {put own tn tn' : Nat} {now z : Int}
theorem OLeft.le (h : OLeft P T C put own tn) : own ≤ T.lim P.N put tn:=by
 obtain ⟨m,_,_,h3⟩:=h
 omega
theorem OLeft.new (h : WLeft P T C (T.lim P.N put 0)) : OLeft P T C put 0 0:=⟨_,h,Nat.le_refl _,by omega⟩
theorem OLeft.again (h : OLeft P T C put own tn) : OLeft P T C put 0 0:=by
 obtain ⟨m,h1,h2,_⟩:=h
 exact ⟨m,h1,h2,by omega⟩
theorem OLeft.more (h : OLeft P T C put own tn) (ht : tn ≤ tn') : OLeft P T C put own tn':=by
 obtain ⟨m,h1,h2,h3⟩:=h
 exact ⟨m,h1,h2,Nat.le_trans h3 (T.lim_mono ht)⟩
theorem OLeft.same (h : OLeft P T C put own tn) (hk : T.Ok P C) (hp : T.ph = 0) (e : WSame P.N C C') : OLeft P T C' put own tn:=by
 obtain ⟨m,h1,h2,h3⟩:=h
 exact ⟨m,h1.same hk hp e,h2,h3⟩
theorem OLeft.turn (h : OLeft P T C put own tn) (C' : List Int) (hk : T.Ok P C) (hp : T.ph = 0) : OLeft P T C' put own (tn + 1):=by
 obtain ⟨m,h1,h2,h3⟩:=h
 cases T with
 | pu k=>exact ⟨m,h1,h2,h3⟩
 | ge k =>
  have h3' : own + m ≤ (tn + 1) * (4 * P.N + 10):=h3
  refine ⟨4 * P.N + 10,GLeft.turn h1 C' hk.1 hp, ?_, ?_⟩
  ·show 4 * P.N + 10 ≤ (0 + 1) * (4 * P.N + 10)
   omega
  ·show own + (4 * P.N + 10) ≤ (tn + 1 + 1) * (4 * P.N + 10)
   rw [Nat.add_mul (tn + 1) 1,Nat.one_mul]
   omega
theorem OLeft.step (h : OLeft P T C put own tn) (hk : T.Ok P C) (hp : T.ph = 0) (ha : T.ask C z) (n0 : 0 ≤ now) (hf : ∀ j,0 ≤ C.getD j 0) : own + 1 ≤ T.lim P.N put tn ∧ ((T.step P C now z).ph ≠ 0 ∨ OLeft P (T.step P C now z) (T.cells P C now) put (own + 1) tn):=by
 obtain ⟨m,h1,h2,h3⟩:=h
 obtain ⟨g1,g2⟩:=h1.step hk hp ha n0 hf (now:=now)
 refine ⟨by omega,g2.imp id (fun g=>⟨m - 1,g, ?_, ?_⟩)⟩
 ·rw [T.lim_step]
  omega
 ·rw [T.lim_step]
  omega
end
def tot (f : Nat → Nat) : Nat → Nat
 | 0=>0
 | n + 1=>tot f n + f n
def updN (f : Nat → Nat) (k v : Nat) : Nat → Nat:=fun j=>if j = k then v else f j
theorem zA1 (f : Nat → Nat) (k v : Nat) : updN f k v k = v:=if_pos rfl
theorem zAV {f : Nat → Nat} {k v j : Nat} (h : j ≠ k) : updN f k v j = f j:=if_neg h
def othN (f : Nat → Nat) (w d : Nat) : Nat → Nat:=fun k=>if k = w then f w else f k + d
theorem zB4 (f : Nat → Nat) (w d : Nat) : othN f w d w = f w:=if_pos rfl
theorem zBn {f : Nat → Nat} {w d k : Nat} (h : k ≠ w) : othN f w d k = f k + d:=if_neg h
theorem zDq (f : Nat → Nat) (k : Nat) : ∀ n,tot (updN f k (f k + 1)) n = tot f n + if k < n then 1 else 0
 | 0=>rfl
 | n + 1=>by
  have ih:=zDq f k n
  rw [tot,tot,ih]
  by_cases e : n = k
  ·subst e
   rw [zA1,if_neg (Nat.lt_irrefl _),if_pos (Nat.lt_succ_self _)]
   omega
  ·rw [zAV e]
   by_cases h : k < n
   ·rw [if_pos h,if_pos (by omega)]
    omega
   ·rw [if_neg h,if_neg (by omega)]
    omega
theorem zFM {f : Nat → Nat} {b : Nat} : ∀ {n : Nat},(∀ k,k < n → f k ≤ b) → tot f n ≤ n * b
 | 0,_=>by simp [tot]
 | n + 1,h=>by
  have ih:=zFM (n:=n) (fun k hk=>h k (by omega))
  have:=h n (by omega)
  rw [tot,Nat.add_mul,Nat.one_mul]
  omega
theorem zDF {f : Nat → Nat} {n : Nat} (h : ∀ k,f k = 0) : tot f n = 0:=by
 induction n with
 | zero=>rfl
 | succ n ih=>rw [tot,ih,h n]
theorem zFd {f : Nat → Nat} {k : Nat} : ∀ {n : Nat},k < n → f k ≤ tot f n
 | 0,h=>absurd h (Nat.not_lt_zero _)
 | n + 1,h=>by
  rw [tot]
  by_cases e : k = n
  ·subst e
   omega
  ·have:=zFd (f:=f) (n:=n) (k:=k) (by omega)
   omega
theorem zFn {f : Nat → Nat} {k : Nat} (h1 : ∀ j,f j ≤ 1) : ∀ {n : Nat},k < n → tot f n - f k + 1 ≤ n
 | 0,h=>absurd h (Nat.not_lt_zero _)
 | n + 1,h=>by
  have hn:=h1 n
  rw [tot]
  by_cases e : k = n
  ·subst e
   have:=zFM (f:=f) (b:=1) (n:=k) (fun j _=>h1 j)
   omega
  ·have ih:=zFn h1 (n:=n) (k:=k) (by omega)
   have hg:=zFd (f:=f) (n:=n) (k:=k) (by omega)
   omega
section
variable {pl : Nat → Pl} {t n N put : Nat} {Y : Yd} {own tn : Nat → Nat}
def Books (pl : Nat → Pl) (put : Nat) (Y : Yd) (own tn : Nat → Nat) : Prop:=∀ (k : Nat) (T : Wk) (i : Nat),Y.ts[k]? = some (some (T,i)) → OLeft (pl k) T Y.C put (own k) (tn k)
theorem Books.none (h : ∀ (k : Nat) (a : Wk × Nat),Y.ts[k]? ≠ some (some a)) : Books pl put Y own tn:=fun k T i hk=>absurd hk (h k _)
theorem Books.call (h : Books pl put Y own tn) {w : Nat} {kd e x s : Int} {T : Wk} (hw : Y.ts[w]? = some .none) (hT : OLeft (pl w) T Y.C put 0 0) : Books pl put (Y.call w kd e x s T) (updN own w 0) (updN tn w 0):=fun k T' i hk=>by
 have hk' : (Y.ts.set w (some (T,Y.ds.length)))[k]? = some (some (T',i)):=hk
 rw [List.getElem?_set] at hk'
 split at hk'
 ·rename_i e1
  subst e1
  rw [zA1,zA1]
  split at hk'
  ·cases hk'
   exact hT
  ·cases hk'
 ·rename_i e1
  rw [zAV (fun e2=>e1 e2.symm),zAV (fun e2=>e1 e2.symm)]
  exact h k T' i hk'
theorem zBz {P : Pl} {w : Nat} {T : Wk} {i : Nat} {z : Int} {k : Nat} {T' : Wk} {i' : Nat} (h : (Y.step P w T i z).ts[k]? = some (some (T',i'))) : (k = w ∧ T' = T.step P Y.C Y.now z ∧ (T.step P Y.C Y.now z).ph = 0) ∨ (k ≠ w ∧ Y.ts[k]? = some (some (T',i'))):=by
 have h' : (if (T.step P Y.C Y.now z).ph = 0 then Y.ts.set w (some (T.step P Y.C Y.now z,i)) else Y.ts.set w Option.none)[k]? = some (some (T',i')):=h
 split at h'
 ·rename_i hp
  rw [List.getElem?_set] at h'
  split at h'
  ·rename_i e1
   split at h'
   ·cases h'
    exact .inl ⟨e1.symm,rfl,hp⟩
   ·cases h'
  ·rename_i e1
   exact .inr ⟨fun e2=>e1 e2.symm,h'⟩
 ·rw [List.getElem?_set] at h'
  split at h'
  ·split at h'
   ·cases h'
   ·cases h'
  ·rename_i e1
   exact .inr ⟨fun e2=>e1 e2.symm,h'⟩
theorem Books.step (h : Books pl put Y own tn) (ho : YOk pl t n Y) (hN : ∀ k,(pl k).N = N) {w : Nat} {T : Wk} {i : Nat} {z : Int} (hw : Y.ts[w]? = some (some (T,i))) (ha : T.ask Y.C z) (hf : ∀ j,0 ≤ Y.C.getD j 0) {dl : Nat} (hd : WSame N Y.C (T.cells (pl w) Y.C Y.now) ∨ 1 ≤ dl) :
  own w + 1 ≤ T.lim N put (tn w) ∧ Books pl put (Y.step (pl w) w T i z) (updN own w (own w + 1)) (othN tn w dl):=by
 obtain ⟨k1,k2,k3,k4,_⟩:=ho.task w T i hw
 obtain ⟨g1,g2⟩:=(h w T i hw).step k1 k4 ha ho.now0 hf (now:=Y.now)
 rw [hN w] at g1
 refine ⟨g1,fun k T' i' hk=>?_⟩
 rcases zBz hk with ⟨rfl,rfl,hp⟩ | ⟨hne,hk⟩
 ·rw [zA1,zB4]
  exact g2.resolve_left (fun hh=>hh hp)
 ·rw [zAV hne,zBn hne]
  obtain ⟨q1,q2,q3,q4,_⟩:=ho.task k T' i' hk
  have hb:=h k T' i' hk
  rcases hd with hd | hd
  ·exact (hb.same q1 q4 (by rw [hN k]; exact hd)).more (by omega)
  ·exact (hb.turn _ q1 q4).more (by omega)
structure Stretch (pl : Nat → Pl) (t put : Nat) (Y : Yd) (s tu : Nat → Nat) : Prop where
 books : Books pl put Y s (fun k=>tot tu t - tu k)
 one : ∀ k,tu k ≤ 1
 last : ∀ (k : Nat) (T : Wk) (i : Nat),Y.ts[k]? = some (some (T,i)) → tu k = 1 → T.last
 idle : ∀ k,(∀ a,Y.ts[k]? ≠ some (some a)) → s k = 0 ∧ tu k = 0
theorem Stretch.short (h : Stretch pl t put Y (own) tn) (ho : YOk pl t n Y) (hN : ∀ k,(pl k).N = N) (ht : 1 ≤ t) {b : Nat} (h1 : put ≤ b) (h2 : t * (4 * N + 10) ≤ b) : tot own t ≤ t * b:=by
 refine zFM (fun k hk=>?_)
 have hlt : k < Y.ts.length:=by rw [ho.len]; exact hk
 cases hq : Y.ts[k]? with
 | none =>
  have:=List.getElem?_eq_none_iff.1 hq
  omega
 | some a =>
  cases a with
  | none =>
   rw [(h.idle k (fun a ha=>by rw [hq] at ha; cases ha)).1]
   exact Nat.zero_le _
  | some a =>
   have hb:=(h.books k a.1 a.2 hq).le
   refine Nat.le_trans hb ?_
   rw [hN k]
   have h3:=zFn (f:=tn) h.one hk
   cases ha : a.1 with
   | pu q=>exact h1
   | ge q =>
    show (tot tn t - tn k + 1) * (4 * N + 10) ≤ b
    exact Nat.le_trans (Nat.mul_le_mul_right _ h3) h2
theorem Stretch.step (h : Stretch pl t put Y own tn) (ho : YOk pl t n Y) (hN : ∀ k,(pl k).N = N) {w : Nat} {T : Wk} {i : Nat} {z : Int} (hw : Y.ts[w]? = some (some (T,i))) (ha : T.ask Y.C z) (hf : ∀ j,0 ≤ Y.C.getD j 0) (hp : (T.step (pl w) Y.C Y.now z).ph = 0) :
  ∃ tn',Stretch pl t put (Y.step (pl w) w T i z) (updN own w (own w + 1)) tn' ∧ tot (updN own w (own w + 1)) t = tot own t + 1:=by
 have hwt : w < t:=by rw [← ho.len]; exact (List.getElem?_eq_some_iff.1 hw).1
 obtain ⟨k1,k2,k3,k4,_⟩:=ho.task w T i hw
 have hu0 : tn w = 0:=by
  have:=h.one w
  by_cases e : tn w = 1
  ·have h1:=Wk.last_over (P:=pl w) (C:=Y.C) (now:=Y.now) (z:=z) k1 (h.last w T i hw e)
   omega
  ·omega
 have htot : tot (updN own w (own w + 1)) t = tot own t + 1:=by rw [zDq,if_pos hwt]
 have hidle : ∀ k,(∀ a,(Y.step (pl w) w T i z).ts[k]? ≠ some (some a)) → k ≠ w ∧ ∀ a,Y.ts[k]? ≠ some (some a):=fun k hk=>by
  have e1 : (Y.step (pl w) w T i z).ts = Y.ts.set w (some (T.step (pl w) Y.C Y.now z,i)):=if_pos hp
  have hne : k ≠ w:=fun e=>by
   subst e
   refine hk (T.step (pl k) Y.C Y.now z,i) ?_
   rw [e1,List.getElem?_set_self (List.getElem?_eq_some_iff.1 hw).1]
  refine ⟨hne,fun a ha=>hk a ?_⟩
  rw [e1,List.getElem?_set_ne (fun e=>hne e.symm)]
  exact ha
 rcases Wk.words (now:=Y.now) (z:=z) k1 k4 with hs | ⟨_,hl⟩
 ·rw [hN w] at hs
  obtain ⟨g1,g2⟩:=h.books.step ho hN hw ha hf (dl:=0) (.inl hs)
  refine ⟨tn,⟨fun k T' i' hk=>?_,h.one,fun k T' i' hk hu=>?_,fun k hk=>?_⟩,htot⟩
  ·have h9:=g2 k T' i' hk
   by_cases e : k = w
   ·subst e
    rw [zB4] at h9
    exact h9
   ·rw [zBn e] at h9
    exact h9
  ·rcases zBz hk with ⟨rfl,_⟩ | ⟨hne,hk⟩
   ·omega
   ·exact h.last k T' i' hk hu
  ·obtain ⟨hne,hk'⟩:=hidle k hk
   rw [zAV hne]
   exact h.idle k hk'
 ·have hlast : (T.step (pl w) Y.C Y.now z).last:=by
   rcases hl with hl | hl
   ·omega
   ·exact hl
  obtain ⟨g1,g2⟩:=h.books.step ho hN hw ha hf (dl:=1) (.inr (Nat.le_refl _))
  have htu : tot (updN tn w 1) t = tot tn t + 1:=by
   have:=zDq tn w t
   rw [hu0,if_pos hwt] at this
   exact this
  refine ⟨updN tn w 1,⟨fun k T' i' hk=>?_,fun k=>?_,fun k T' i' hk hu=>?_,fun k hk=>?_⟩,htot⟩
  ·have h9:=g2 k T' i' hk
   show OLeft (pl k) T' (Y.step (pl w) w T i z).C put _ (tot (updN tn w 1) t - updN tn w 1 k)
   by_cases e : k = w
   ·subst e
    rw [zB4,hu0] at h9
    show OLeft _ _ _ put (updN own k (own k + 1) k) (tot (updN tn k 1) t - updN tn k 1 k)
    rw [zA1 tn,htu]
    exact h9.more (by omega)
   ·rw [zBn e] at h9
    rw [htu,zAV (f:=tn) e]
    have hkt : k < t:=by
     rcases zBz hk with ⟨e2,_⟩ | ⟨_,hk2⟩
     ·exact absurd e2 e
     ·rw [← ho.len]
      exact (List.getElem?_eq_some_iff.1 hk2).1
    have hg:=zFd (f:=tn) hkt
    have hle : (tot tn t - tn k) + 1 ≤ tot tn t + 1 - tn k:=by omega
    exact OLeft.more h9 hle
  ·by_cases e : k = w
   ·subst e
    rw [zA1]
    exact Nat.le_refl _
   ·rw [zAV e]
    exact h.one k
  ·rcases zBz hk with ⟨rfl,rfl,_⟩ | ⟨hne,hk⟩
   ·exact hlast
   ·rw [zAV hne] at hu
    exact h.last k T' i' hk hu
  ·obtain ⟨hne,hk'⟩:=hidle k hk
   rw [zAV hne,zAV hne]
   exact h.idle k hk'
theorem Stretch.ended (h : Stretch pl t put Y own tn) (ho : YOk pl t n Y) (hN : ∀ k,(pl k).N = N) {w : Nat} {T : Wk} {i : Nat} {z : Int} (hw : Y.ts[w]? = some (some (T,i))) (ha : T.ask Y.C z) (hf : ∀ j,0 ≤ Y.C.getD j 0) :
  Stretch pl t put (Y.step (pl w) w T i z) (fun _=>0) (fun _=>0):=by
 obtain ⟨g1,g2⟩:=h.books.step ho hN hw ha hf (dl:=1) (.inr (Nat.le_refl _))
 exact ⟨fun k T' i' hk=>(g2 k T' i' hk).again.more (Nat.zero_le _),fun _=>Nat.zero_le _,fun k T' i' _ hu=>absurd hu (by decide),fun _ _=>⟨rfl,rfl⟩⟩
end
theorem OLeft.begun {t s so d who e x start m : Int} {N nb h0 hw put : Nat} {C : List Int} (take : Bool) (hl : Lay t s N) (hput : s * (t + 1) + most t so d + 2 = (put : Int)) : OLeft ⟨N,m,nb,h0,hw⟩ (wk0 t s so d who take e x start m N) C put 0 0:=by
 refine OLeft.new ?_
 cases take with
 | true =>
  show GLeft N (ge0 t s so d who e start N) C ((0 + 1) * (4 * N + 10))
  rw [Nat.zero_add,Nat.one_mul]
  exact GLeft.start hl
 | false =>
  show (pu0 t s so d who e x m).rem m ≤ (put : Int)
  rw [zFf]
  omega
end
end Go.Proofs.YtebgjfhaolgcjaaGreat
