/- Contracts and plain lemmas that these laws need. No condition. -/
import Derived.Below
import Derived.BigQuiet
import Derived.BigRegion
import Derived.ChangeOld
import Derived.Deep.CutBlock
import Derived.Deep.DeepCutAuto
import Derived.Deep.QuietTactic
import Derived.Deep.RegionHeld3
import Derived.Deep.RegionLaw
import Derived.Deep.Slices
import Derived.IntWalk
import Derived.Lib.Hide
import Derived.Maps.AppendAt
import Derived.OpenShut
import Derived.OwnWalk
import Derived.ProofKit
import Derived.ShutString
import Derived.Sort.Grow
import Derived.WalkKit
import Derived.WalkLawsBesides
import Derived.WalkSpells
import Derived.Test.YtjlpidjilonhfaaGreatProg

namespace Go.Proofs.YtjlpidjilonhfaaGreat
set_option linter.unusedVariables false
set_option maxHeartbeats 8000000
set_option maxRecDepth 100000
theorem zIo {p : Prop} (h : p) : Go.RowKit.Hid p := Go.Lib.hid h
theorem qset {α : Type} : (∀ (l : List α) (i : Nat) (a : α), l.toArray.setIfInBounds i a = (l.set i a).toArray) ∧ (∀ (a b : α) (l : List α), (a :: l).set 0 b = b :: l) ∧ (∀ (a b : α) (l : List α) (i : Nat), (a :: l).set (i + 1) b = a :: l.set i b) := ⟨fun l i a => List.setIfInBounds_toArray l i a, fun a b l => rfl, fun a b l i => rfl⟩
section
open Go.RowKit
section
abbrev st (a b : Int) : Value:=.agg #[.int .i64 a,.int .i64 b]
abbrev i64 (a : Int) : Value:=.int .i64 a
abbrev u64 (a : Int) : Value:=.int .u64 a
theorem bcell {W w1 : World} (hb : Below W.heap.size W w1) : (∀ b o,b < W.heap.size → w1.cell? ⟨b,o,none⟩ = W.cell? ⟨b,o,none⟩) ∧ (∀ b o,b < W.heap.size → w1.frozen? ⟨b,o,none⟩ = W.frozen? ⟨b,o,none⟩) :=
 ⟨fun b o h=>hb.cell (p:=⟨b,o,none⟩) h,fun b o h=>hb.frozen (p:=⟨b,o,none⟩) h⟩
theorem zAE {w W W' : World} (h : Below w.heap.size w W) (h' : Below W.heap.size W W') : Below w.heap.size w W':=h.trans (h'.mono h.size)
theorem zAA {w W : World} (h : Below w.heap.size w W) (o : Obj) : Below w.heap.size w (W.alloc o):=h.alloc h.size o
theorem zAG {w W : World} (h : Below w.heap.size w W) {p : Addr} (hp : w.heap.size ≤ p.block) (u : Value) : Below w.heap.size w (W.setCell p u):=h.setCell hp u
end
section
def Sched (md : Region.Mode) (ops : Array Oper) : List (Nat × Bool) → Array Bool → Bool
 | [],listed=>(Region.ready md ops listed).isEmpty
 | (i,true) :: σ,listed=>Region.free md ops listed i && ((Region.ready md ops listed).contains i && Sched md ops σ (listed.setIfInBounds i true))
 | (i,false) :: σ,listed=>(Region.ready md ops listed == [i]) && Sched md ops σ (listed.setIfInBounds i true)
section
variable {P : Program} {ops : Array Oper} {Q : Exit → Act → World → Prop} {md : Region.Mode} {S : World → Prop}
def seqH (P : Program) (ops : Array Oper) (Q : Exit → Act → World → Prop) (S : World → Prop) : List (Nat × Bool) → Act → World → Prop
 | [],a,w=>Q .normal a w
 | (i,true) :: σ,a,w => ∃ o v,ops[i]? = some o ∧ YieldsIf P ops S o v a ∧ seqH P ops Q S σ (a.put o.dst v) w
 | (i,false) :: σ,a,w=>wpOp P ops Q i (fun a' w'=>S w' ∧ seqH P ops Q S σ a' w') a w
theorem zAC {i : Nat} {σ : List (Nat × Bool)} {o : Oper} {v : Value} {a : Act} {w : World} (ho : ops.toList[i]? = some o) (hw : Region.wanted o (yielded ops a.tmps) = true)
  (hy : ∀ w,S w → (execOp a.eval o).run P w = .ok (.value v) w) (h : seqH P ops Q S σ (a.put o.dst v) w) : seqH P ops Q S ((i,true) :: σ) a w :=
 ⟨o,v,by rw [← Array.getElem?_toList]; exact ho,.inl ⟨hw,hy⟩,h⟩
theorem zAB {i : Nat} {σ : List (Nat × Bool)} {o : Oper} {a : Act} {w : World} (ho : ops.toList[i]? = some o) (hw : Region.wanted o (yielded ops a.tmps) = false)
  (h : seqH P ops Q S σ (a.put o.dst undef) w) : seqH P ops Q S ((i,true) :: σ) a w :=
 ⟨o,undef,by rw [← Array.getElem?_toList]; exact ho,.inr ⟨hw,rfl⟩,h⟩
theorem zAH {i : Nat} {σ : List (Nat × Bool)} {o : Oper} {a : Act} {w : World} (ho : ops.toList[i]? = some o)
  (h : ∀ K' : Act → World → Prop,Shut (∀ a w,S w → (S w → seqH P ops Q S σ a w) → K' a w) → if Region.wanted o (yielded ops a.tmps) = true then Oper.wp P o a w K' Q else K' (a.put o.dst undef) w) :
  seqH P ops Q S ((i,false) :: σ) a w :=
 wpOp_step (by rw [← Array.getElem?_toList]; exact ho) (fun K' hK=>h K' (fun a w hS hW=>hK a w ⟨hS,hW hS⟩))
theorem zAJ {a : Act} {w : World} (h : Q .normal a w) : seqH P ops Q S [] a w:=h
theorem zD3 (hQ : ∀ c t v a w,Q (.panic c) (Act.put a (some t) v) w → Q (.panic c) a w) (c : List PanicEntry) (d : Option Tmp) (v : Value) (a : Act) (w : World) (h : Q (.panic c) (Act.put a d v) w) : Q (.panic c) a w:=by
 cases d with
 | none=>exact h
 | some t=>exact hQ c t v a w h
theorem zBZ (hs : Region.noSelect ops = true) (hQ : ∀ c t v a w,Q (.panic c) (Act.put a (some t) v) w → Q (.panic c) a w) :
  ∀ (σ : List (Nat × Bool)) (fuel : Nat) (listed : Array Bool) (a : Act) (w : World),Sched md ops σ listed = true → σ.length ≤ fuel → S w → seqH P ops Q S σ a w → wpAnyH P md ops Q S fuel listed a w
 | [],fuel,listed,a,w,hc,_,_,h=>wpAnyH_done (by simpa [Sched] using hc) h fuel
 | (i,true) :: σ,0,_,_,_,_,hl,_,_=>by simp at hl
 | (i,true) :: σ,fuel + 1,listed,a,w,hc,hl,hS,h=>by
  obtain ⟨o,v,ho,hy,hr⟩:=h
  simp only [Sched,Bool.and_eq_true] at hc
  exact wpAnyH_take ho hs hc.1 hc.2.1 (fun c a w=>zD3 hQ c o.dst v a w) hy hS (zBZ hs hQ σ fuel _ _ _ hc.2.2 (by simpa using hl) hS hr)
 | (i,false) :: σ,0,_,_,_,_,hl,_,_=>by simp at hl
 | (i,false) :: σ,fuel + 1,listed,a,w,hc,hl,hS,h=>by
  simp only [Sched,Bool.and_eq_true,beq_iff_eq] at hc
  refine wpAnyH_all hc.1 (by simp) (fun j hj=>?_)
  obtain rfl : j = i:=by simpa using hj
  exact wpOp_mono (fun a' w' h'=>⟨h'.1,zBZ hs hQ σ fuel _ _ _ hc.2 (by simpa using hl) h'.1 h'.2⟩) h
theorem zAN {id : Nat} {a : Act} {w : World} (σ : List (Nat × Bool)) (hm : P.follows .mixedOrders = true) (hs : Region.noSelect ops = true) (hc : Sched .any ops σ (Array.replicate ops.size false) = true) (hl : σ.length ≤ ops.size)
  (hQ : ∀ c t v a w,Q (.panic c) (Act.put a (some t) v) w → Q (.panic c) a w) (h : Below w.heap.size w w.drew → seqH P ops Q (fun w'=>Below w.heap.size w w') σ a w.drew) : (Code.region id ops true).wp P Q a w :=
 have hb : Below w.heap.size w w.drew:=(Below.refl _ _).drew
 wp_region_held (S:=fun w'=>Below w.heap.size w w') hm (zBZ hs hQ σ _ _ _ _ hc hl hb (h hb))
theorem zAM {W w' : World} (h : Below W.heap.size W w') : ∀ a,(W.cell? a).isSome = true → w'.cell? a = W.cell? a:=fun a ha=>by
 obtain ⟨u,hu⟩:=Option.isSome_iff_exists.1 ha
 exact h.cell (World.block_lt_of_cell? W a hu)
end
theorem zAD {P : Program} {ops : Array Oper} {Q : Exit → Act → World → Prop} {id : Nat} {a : Act} {w : World} (S : World → Prop) (σ : List (Nat × Bool)) (hm : P.follows .mixedOrders = true) (hs : Region.noSelect ops = true) (hc : Sched .any ops σ (Array.replicate ops.size false) = true) (hl : σ.length ≤ ops.size)
  (hQ : ∀ c t v a w,Q (.panic c) (Act.put a (some t) v) w → Q (.panic c) a w) (h0 : S w.drew) (h : seqH P ops Q S σ a w.drew) : (Code.region id ops true).wp P Q a w :=
 wp_region_held (S:=S) hm (zBZ hs hQ σ _ _ _ _ hc hl h0 h)
end
section
inductive Sc where
 | nil : Sc
 | take : Nat → Sc → Sc
 | one : Nat → Sc → Sc
 | two : Nat → Sc → Nat → Sc → Sc
 | three : Nat → Sc → Nat → Sc → Nat → Sc → Sc
def Sc.size : Sc → Nat
 | .nil=>0
 | .take _ σ=>σ.size + 1
 | .one _ σ=>σ.size + 1
 | .two _ σ _ τ=>max σ.size τ.size + 1
 | .three _ σ _ τ _ υ=>max σ.size (max τ.size υ.size) + 1
def SchedT (md : Region.Mode) (ops : Array Oper) : Sc → Array Bool → Bool
 | .nil,listed=>(Region.ready md ops listed).isEmpty
 | .take i σ,listed=>Region.free md ops listed i && ((Region.ready md ops listed).contains i && SchedT md ops σ (listed.setIfInBounds i true))
 | .one i σ,listed=>(Region.ready md ops listed == [i]) && SchedT md ops σ (listed.setIfInBounds i true)
 | .two i σ j τ,listed=>(Region.ready md ops listed == [i,j]) && (SchedT md ops σ (listed.setIfInBounds i true) && SchedT md ops τ (listed.setIfInBounds j true))
 | .three i σ j τ k υ,listed=>(Region.ready md ops listed == [i,j,k]) && (SchedT md ops σ (listed.setIfInBounds i true) && (SchedT md ops τ (listed.setIfInBounds j true) && SchedT md ops υ (listed.setIfInBounds k true)))
section
variable {P : Program} {ops : Array Oper} {Q : Exit → Act → World → Prop} {md : Region.Mode} {S : World → Prop}
def seqT (P : Program) (ops : Array Oper) (Q : Exit → Act → World → Prop) (S : World → Prop) : Sc → Act → World → Prop
 | .nil,a,w=>Q .normal a w
 | .take i σ,a,w => ∃ o v,ops[i]? = some o ∧ YieldsIf P ops S o v a ∧ seqT P ops Q S σ (a.put o.dst v) w
 | .one i σ,a,w=>wpOp P ops Q i (fun a' w'=>S w' ∧ seqT P ops Q S σ a' w') a w
 | .two i σ j τ,a,w=>wpOp P ops Q i (fun a' w'=>S w' ∧ seqT P ops Q S σ a' w') a w ∧ wpOp P ops Q j (fun a' w'=>S w' ∧ seqT P ops Q S τ a' w') a w
 | .three i σ j τ k υ,a,w=>wpOp P ops Q i (fun a' w'=>S w' ∧ seqT P ops Q S σ a' w') a w ∧ wpOp P ops Q j (fun a' w'=>S w' ∧ seqT P ops Q S τ a' w') a w ∧ wpOp P ops Q k (fun a' w'=>S w' ∧ seqT P ops Q S υ a' w') a w
theorem zAg {i : Nat} {σ : Sc} {o : Oper} {v : Value} {a : Act} {w : World} (ho : ops.toList[i]? = some o) (hw : Region.wanted o (yielded ops a.tmps) = true)
  (hy : ∀ w,S w → (execOp a.eval o).run P w = .ok (.value v) w) (h : seqT P ops Q S σ (a.put o.dst v) w) : seqT P ops Q S (.take i σ) a w :=
 ⟨o,v,by rw [← Array.getElem?_toList]; exact ho,.inl ⟨hw,hy⟩,h⟩
theorem zAO {a : Act} {w : World} (h : Q .normal a w) : seqT P ops Q S .nil a w:=h
theorem runT {i : Nat} {σ : Sc} {o : Oper} {a : Act} {w : World} (ho : ops.toList[i]? = some o)
  (h : ∀ K' : Act → World → Prop,Shut (∀ a w,S w → (S w → seqT P ops Q S σ a w) → K' a w) → if Region.wanted o (yielded ops a.tmps) = true then Oper.wp P o a w K' Q else K' (a.put o.dst undef) w) :
  wpOp P ops Q i (fun a' w'=>S w' ∧ seqT P ops Q S σ a' w') a w :=
 wpOp_step (by rw [← Array.getElem?_toList]; exact ho) (fun K' hK=>h K' (fun a w hS hW=>hK a w ⟨hS,hW hS⟩))
theorem zAe (hs : Region.noSelect ops = true) (hQ : ∀ c t v a w,Q (.panic c) (Act.put a (some t) v) w → Q (.panic c) a w) :
  ∀ (σ : Sc) (fuel : Nat) (listed : Array Bool) (a : Act) (w : World),SchedT md ops σ listed = true → σ.size ≤ fuel → S w → seqT P ops Q S σ a w → wpAnyH P md ops Q S fuel listed a w
 | .nil,fuel,listed,a,w,hc,_,_,h=>wpAnyH_done (by simpa [SchedT] using hc) h fuel
 | .take i σ,0,_,_,_,_,hl,_,_=>by simp [Sc.size] at hl
 | .take i σ,fuel + 1,listed,a,w,hc,hl,hS,h=>by
  obtain ⟨o,v,ho,hy,hr⟩:=h
  simp only [SchedT,Bool.and_eq_true] at hc
  exact wpAnyH_take ho hs hc.1 hc.2.1 (fun c a w=>zD3 hQ c o.dst v a w) hy hS (zAe hs hQ σ fuel _ _ _ hc.2.2 (by simpa [Sc.size] using hl) hS hr)
 | .one i σ,0,_,_,_,_,hl,_,_=>by simp [Sc.size] at hl
 | .one i σ,fuel + 1,listed,a,w,hc,hl,hS,h=>by
  simp only [SchedT,Bool.and_eq_true,beq_iff_eq] at hc
  refine wpAnyH_all hc.1 (by simp) (fun j hj=>?_)
  obtain rfl : j = i:=by simpa using hj
  exact wpOp_mono (fun a' w' h'=>⟨h'.1,zAe hs hQ σ fuel _ _ _ hc.2 (by simpa [Sc.size] using hl) h'.1 h'.2⟩) h
 | .two i σ j τ,0,_,_,_,_,hl,_,_=>by simp [Sc.size] at hl
 | .two i σ j τ,fuel + 1,listed,a,w,hc,hl,hS,h=>by
  simp only [SchedT,Bool.and_eq_true,beq_iff_eq] at hc
  simp only [Sc.size] at hl
  refine wpAnyH_all hc.1 (by simp) (fun q hq=>?_)
  simp only [List.mem_cons,List.not_mem_nil,or_false] at hq
  rcases hq with rfl | rfl
  ·exact wpOp_mono (fun a' w' h'=>⟨h'.1,zAe hs hQ σ fuel _ _ _ hc.2.1 (by omega) h'.1 h'.2⟩) h.1
  ·exact wpOp_mono (fun a' w' h'=>⟨h'.1,zAe hs hQ τ fuel _ _ _ hc.2.2 (by omega) h'.1 h'.2⟩) h.2
 | .three i σ j τ k υ,0,_,_,_,_,hl,_,_=>by simp [Sc.size] at hl
 | .three i σ j τ k υ,fuel + 1,listed,a,w,hc,hl,hS,h=>by
  simp only [SchedT,Bool.and_eq_true,beq_iff_eq] at hc
  simp only [Sc.size] at hl
  refine wpAnyH_all hc.1 (by simp) (fun q hq=>?_)
  simp only [List.mem_cons,List.not_mem_nil,or_false] at hq
  rcases hq with rfl | rfl | rfl
  ·exact wpOp_mono (fun a' w' h'=>⟨h'.1,zAe hs hQ σ fuel _ _ _ hc.2.1 (by omega) h'.1 h'.2⟩) h.1
  ·exact wpOp_mono (fun a' w' h'=>⟨h'.1,zAe hs hQ τ fuel _ _ _ hc.2.2.1 (by omega) h'.1 h'.2⟩) h.2.1
  ·exact wpOp_mono (fun a' w' h'=>⟨h'.1,zAe hs hQ υ fuel _ _ _ hc.2.2.2 (by omega) h'.1 h'.2⟩) h.2.2
theorem zA4 {id : Nat} {a : Act} {w : World} (S : World → Prop) (σ : Sc) (hm : P.follows .mixedOrders = true) (hs : Region.noSelect ops = true) (hc : SchedT .any ops σ (Array.replicate ops.size false) = true) (hl : σ.size ≤ ops.size)
  (hQ : ∀ c t v a w,Q (.panic c) (Act.put a (some t) v) w → Q (.panic c) a w) (h0 : S w.drew) (h : seqT P ops Q S σ a w.drew) : (Code.region id ops true).wp P Q a w :=
 wp_region_held (S:=S) hm (zAe hs hQ σ _ _ _ _ hc hl h0 h)
end
end
section
open Go.ChangeShapes Go.WideShapes Go.ChangeAt Go.RowKit Go.Deep
theorem zEc (b off i : Nat) : ({ block:=b,off:=off,spot:=none } : Addr).add i = { block:=b,off:=off + i,spot:=none }:=by
 unfold Addr.add
 split
 ·rename_i h
  subst h
  rfl
 ·rfl
abbrev CK:=Sum IntKind Bool
def FitC (k : CK) (c : Value) : Prop :=
 match k with
 | .inl k => ∃ n,c = .int k n ∧ (Lit.int k n).wf = true
 | .inr true => ∃ b,c = .bool b
 | .inr false => ∃ s : ByteArray,c = .string s ∧ s.size ≤ maxLen
def Fit : List CK → List Value → Prop
 | [],[]=>True
 | k :: ks,c :: cs=>FitC k c ∧ Fit ks cs
 | _,_=>False
theorem zA1 {k : CK} {ks : List CK} {l : List Value} (h : Fit (k :: ks) l) : ∃ c cs,l = c :: cs ∧ FitC k c ∧ Fit ks cs:=by
 cases l with
 | nil=>exact h.elim
 | cons c cs=>exact ⟨c,cs,rfl,h.1,h.2⟩
theorem zCx : ∀ {a b : List CK} {x y : List Value},Fit a x → Fit b y → Fit (a ++ b) (x ++ y)
 | [],_,[],_,_,hb=>hb
 | [],_,_ :: _,_,ha,_=>ha.elim
 | _ :: _,_,[],_,ha,_=>ha.elim
 | _ :: _,_,_ :: _,_,ha,hb=>⟨ha.1,zCx ha.2 hb⟩
def flatFs (P : Program) (r : TypeId → Option (List CK)) : List Field → Nat → Option (List CK)
 | [],_=>some []
 | f :: fs,off =>
  if f.offset = off then
   match r f.type with
   | some l=>if P.cellsOf f.type = l.length then (flatFs P r fs (off + l.length)).map (l ++ ·) else none
   | none=>none
  else none
def flat (P : Program) : Nat → TypeId → Option (List CK)
 | 0,_=>none
 | n + 1,t =>
  match P.underlying t with
  | some .bool=>some [.inr true]
  | some .string=>some [.inr false]
  | some (.int k)=>some [.inl k]
  | some (.struct fs) =>
   match flatFs P (flat P n) fs.toList 0 with
   | some ks=>if P.cellsOf t = ks.length then some ks else none
   | none=>none
  | _=>none
section
variable {H : Type} {enc : TypeId × Value → H} {P : Program} {w : World} {base : Nat} {spare : Nat → Bool} {held : Bool}
theorem zCu {r : TypeId → Option (List CK)} {m : Nat} {cs : List Value}
  (hr : ∀ (t : TypeId) (ks : List CK) (l : List Value) (x : DataW H × List MemPlace),r t = some ks → DataW.trod enc P w base spare held m t l = some x → Fit ks l) :
  ∀ (fs : List Field) (off : Nat) (ks : List CK),(∀ f ∈ fs, ∃ x,DataW.trod enc P w base spare held m f.type ((cs.drop f.offset).take (P.cellsOf f.type)) = some x) → flatFs P r fs off = some ks → Fit ks ((cs.drop off).take ks.length)
 | [],_,ks,_,h=>by
  simp only [flatFs,Option.some.injEq] at h
  subst h
  simp [Fit]
 | f :: fs,off,ks,hx,h=>by
  unfold flatFs at h
  split at h
  ·rename_i ho
   split at h
   ·rename_i l hl
    split at h
    ·rename_i hc
     obtain ⟨ks',h1,rfl⟩:=Option.map_eq_some_iff.1 h
     have h2:=zCu hr fs (off + l.length) ks' (fun g hg=>hx g (List.mem_cons_of_mem _ hg)) h1
     obtain ⟨x,h3⟩:=hx f List.mem_cons_self
     have h4:=hr f.type l _ x hl h3
     rw [ho,hc] at h4
     have h5:=zCx h4 h2
     rw [List.length_append,List.take_add,List.drop_drop]
     exact h5
    ·cases h
   ·cases h
  ·cases h
theorem zCM : ∀ (n : Nat) (t : TypeId) (ks : List CK) (fuel : Nat) (cs : List Value) (x : DataW H × List MemPlace),flat P n t = some ks → DataW.trod enc P w base spare held fuel t cs = some x → Fit ks cs
 | 0,_,_,_,_,_,h,_=>by cases h
 | n + 1,t,ks,fuel,cs,x,h,ht=>by
  unfold flat at h
  split at h
  ·rename_i hu
   obtain ⟨b,rfl,_⟩:=DataW.trod_bool hu ht
   cases h
   exact ⟨⟨b,rfl⟩,trivial⟩
  ·rename_i hu
   obtain ⟨b,rfl,_,hs⟩:=DataW.trod_string hu ht
   cases h
   exact ⟨⟨b,rfl,hs⟩,trivial⟩
  ·rename_i k hu
   obtain ⟨b,rfl,_,hs⟩:=DataW.trod_int hu ht
   cases h
   exact ⟨⟨b,rfl,hs⟩,trivial⟩
  ·rename_i fs hu
   split at h
   ·rename_i ks' hk
    split at h
    ·rename_i hc
     cases h
     obtain ⟨xs,m,rfl,_,hlen,hxl,hf⟩:=DataW.trod_struct hu ht
     have h1 : ∀ f ∈ fs.toList, ∃ x,DataW.trod enc P w base spare held m f.type ((cs.drop f.offset).take (P.cellsOf f.type)) = some x:=by
      intro f hm
      obtain ⟨i,hi,he⟩:=List.getElem_of_mem hm
      have hi' : i < fs.size:=by simpa using hi
      have he' : fs[i]? = some f:=by rw [Array.getElem?_eq_getElem hi']; simpa using he
      exact ⟨_,(hf i f he').trans (List.getElem?_eq_getElem (by omega))⟩
     have h2:=zCu (fun t ks l x a b=>zCM n t ks m l x a b) fs.toList 0 ks h1 hk
     rw [List.drop_zero,List.take_of_length_le (by omega)] at h2
     exact h2
    ·cases h
   ·cases h
  ·cases h
def IsRows (w : World) (ks : List CK) (a : Option Addr) (len cap : Nat) : Prop :=
 len ≤ cap ∧ cap ≤ maxLen ∧ (a = none → len = 0 ∧ cap = 0) ∧ (0 < len → ∃ b off,a = some ⟨b,off,none⟩) ∧
  ∀ b off,a = some ⟨b,off,none⟩ → ∀ i,i < len → ∃ cs,Fit ks cs ∧ ∀ j v,cs[j]? = some v → w.cell? ⟨b,off + (i * ks.length + j),none⟩ = some v
theorem zDY {r : Reach} {b0 : Nat} {t e : TypeId} {n : Nat} {ks : List CK} {v : Value} {d : DataW H} {p : List MemPlace} (hs : P.underlying t = some (.slice e)) (hk : flat P n e = some ks) (hc : P.cellsOf e = ks.length) (hpos : 0 < ks.length)
  (hv : Value.okWide P w r b0 t v) (h : DataW.Trod enc P w base spare held t v d p) : ∃ a len cap,v = .slice a len cap ∧ IsRows w ks a len cap:=by
 obtain ⟨a,len,cap,rfl⟩:=okWide_slice hs hv
 refine ⟨a,len,cap,rfl, ?_⟩
 obtain ⟨fuel,hf⟩:=h
 rcases open_slice hs hf with ⟨hcs,_⟩ | ⟨x,l,c,m,f,D,Pl,hcs,hb,hl,hm,hmm,_,hi⟩
 ·simp [Value.cells] at hcs
  obtain ⟨rfl,rfl,rfl⟩:=hcs
  exact ⟨Nat.le_refl _,Nat.zero_le _,(fun _=>⟨rfl,rfl⟩),(fun h=>absurd h (by omega)),(fun _ _ h=>by cases h)⟩
 ·simp [Value.cells] at hcs
  obtain ⟨rfl,rfl,rfl⟩:=hcs
  have hlm : len ≤ m:=by rw [hmm]; split <;> omega
  refine ⟨hl,hm,(fun h=>by cases h),fun h0=>?_,fun b off hx i hil=>?_⟩
  ·obtain ⟨cs',h1,h2⟩:=hi 0 (by omega)
   obtain ⟨_,hcl,hat⟩:=World.cells?_some h1
   have hc0:=hat 0 (by omega)
   have hlt : 0 < cs'.length:=by omega
   rw [List.getElem?_eq_getElem hlt] at hc0
   obtain ⟨b,off,spot⟩:=x
   have hsp : spot = none:=by simpa [Addr.add] using World.cell?_spot hc0
   subst hsp
   exact ⟨b,off,rfl⟩
  ·cases hx
   obtain ⟨cs',h1,h2⟩:=hi i (by omega)
   obtain ⟨_,hcl,hat⟩:=World.cells?_some h1
   refine ⟨cs',zCM n e ks f cs' _ hk h2,fun j v hj=>?_⟩
   have hjl : j < cs'.length:=(List.getElem?_eq_some_iff.1 hj).1
   have h3:=hat j (by omega)
   rw [hj,hc] at h3
   rw [zEc,zEc,Nat.add_assoc] at h3
   exact h3
end
end
section
structure Keep (T : Nat → Prop) (w w' : World) : Prop where
 os : w'.os = w.os
 tape : w'.tape = w.tape
 output : w'.output = w.output
 size : w.heap.size ≤ w'.heap.size
 block : ∀ k,k < w.heap.size → ¬ T k → w'.heap[k]? = w.heap[k]?
theorem Keep.refl (T : Nat → Prop) (w : World) : Keep T w w:=⟨rfl,rfl,rfl,Nat.le_refl _,fun _ _ _=>rfl⟩
theorem Keep.mono {T T' : Nat → Prop} {w w' : World} (h : Keep T w w') (hT : ∀ k,T k → T' k) : Keep T' w w':=⟨h.os,h.tape,h.output,h.size,fun k hk hn=>h.block k hk (fun ht=>hn (hT k ht))⟩
theorem Keep.trans {T : Nat → Prop} {a b c : World} (h : Keep T a b) (k : Keep T b c) : Keep T a c :=
 ⟨k.os.trans h.os,k.tape.trans h.tape,k.output.trans h.output,Nat.le_trans h.size k.size,fun i hi hn=>(k.block i (Nat.lt_of_lt_of_le hi h.size) hn).trans (h.block i hi hn)⟩
theorem Keep.then' {T T' : Nat → Prop} {a b c : World} (h : Keep T a b) (k : Keep T' b c) (hT : ∀ i,T' i → T i ∨ a.heap.size ≤ i) : Keep T a c :=
 ⟨k.os.trans h.os,k.tape.trans h.tape,k.output.trans h.output,Nat.le_trans h.size k.size,fun i hi hn=>(k.block i (Nat.lt_of_lt_of_le hi h.size) (fun ht=>(hT i ht).elim hn (fun hl=>by omega))).trans (h.block i hi hn)⟩
theorem Keep.of_below {T : Nat → Prop} {w w' : World} (h : Below w.heap.size w w') : Keep T w w':=⟨h.os,h.tape,h.output,h.size,fun k hk _=>h.block k hk⟩
theorem Keep.drew {T : Nat → Prop} {a w : World} (h : Keep T a w) : Keep T a w.drew:=⟨h.os,h.tape,h.output,h.size,h.block⟩
theorem Keep.setCell {T : Nat → Prop} {a w : World} (h : Keep T a w) (p : Addr) (hp : T p.block) (u : Value) : Keep T a (w.setCell p u) :=
 h.trans ⟨rfl,rfl,rfl,by simp [World.setCell],fun k _ hn=>Below.heap_setCell _ _ _ _ (fun e=>hn (e ▸ hp))⟩
theorem Keep.of_grown {T : Nat → Prop} {w w' : World} {row : Option Nat} (h : w.grownBy w' row) (hr : ∀ k,row = some k → T k) : Keep T w w' :=
 ⟨h.os,h.tape,h.output,h.size,fun k hk hn=>h.block k hk (fun e=>hn (hr k e.symm))⟩
theorem zAw {B : Nat} {T : Nat → Prop} {a w w' : World} (h : Below B a w) (k : Keep T w w') (hB : B ≤ w.heap.size) (hT : ∀ i,T i → B ≤ i) : Below B a w' :=
 h.trans ⟨k.os,k.tape,k.output,k.size,fun i hi=>k.block i (by omega) (fun ht=>by have:=hT i ht; omega)⟩
theorem zAU {B : Nat} {w W W' : World} (h : Below B w W) (h' : Below W.heap.size W W') (hB : B ≤ W.heap.size) : Below B w W':=h.trans (h'.mono hB)
theorem Keep.cell {T : Nat → Prop} {w w' : World} (h : Keep T w w') {a : Addr} {v : Value} (hc : w.cell? a = some v) (hn : ¬ T a.block) : w'.cell? a = some v :=
 (World.cell?_of_block (h.block a.block (World.block_lt_of_cell? w a hc) hn)).trans hc
theorem Keep.frozen {T : Nat → Prop} {w w' : World} (h : Keep T w w') {a : Addr} (hl : a.block < w.heap.size) (hn : ¬ T a.block) : w'.frozen? a = w.frozen? a :=
 World.frozen?_of_block (h.block a.block hl hn)
theorem Keep.row {T : Nat → Prop} {w w' : World} {base : Nat} {e : TypeId} {sz : Nat} {v : Value} {n : Nat} {xs : List Value} (h : Keep T w w') (ho : w.ownsRow base e sz v n xs) (hn : ∀ k,v.ownBlock = some k → ¬ T k) : w'.ownsRow base e sz v n xs:=by
 refine ⟨ho.1, ?_⟩
 rcases ho.2 with h1 | ⟨g,cap,cur,rfl,hg,hh,h3⟩
 ·exact .inl h1
 ·exact .inr ⟨g,cap,cur,rfl,hg,by rw [h.block g (Array.getElem?_eq_some_iff.1 hh).1 (hn g rfl)]; exact hh,h3⟩
theorem zHM {w : World} {base base' : Nat} {e : TypeId} {sz : Nat} {v : Value} {n : Nat} {xs : List Value} (h : w.ownsRow base e sz v n xs) (hb : base' ≤ base) : w.ownsRow base' e sz v n xs:=by
 refine ⟨h.1, ?_⟩
 rcases h.2 with h1 | ⟨g,cap,cur,hv,hg,hh,h3⟩
 ·exact .inl h1
 ·exact .inr ⟨g,cap,cur,hv,by omega,hh,h3⟩
theorem zBr {P : Program} (w : World) (base : Nat) (t ty e : TypeId) (i : TypeInfo) (size : Nat) (ht : P.underlying t = some (.slice e)) (hi : P.info? e = some i)
  (v : Value) (n : Nat) (xs : List Value) (hown : w.ownsRow base e size v n xs) (c : Nat) : (Builtin.append_ #[t,t] ty #[v,.slice none 0 c]).run P w = .ok v w:=by
 rcases hown.2 with ⟨rfl,rfl⟩ | ⟨g,cap,cur,rfl,_,_,hnc,_⟩
 ·simp [Builtin.append_,run_underlying ht,sizeOf,typeInfo,hi,Builtin.lenOf,Builtin.firstCells]
 ·simp [Builtin.append_,run_underlying ht,sizeOf,typeInfo,hi,Builtin.lenOf,Builtin.firstCells,hnc,storeCells]
def Moved (w : World) (v v' : Value) : Prop:=∀ k,v'.ownBlock = some k → v.ownBlock = some k ∨ w.heap.size ≤ k
theorem zBV (w : World) (v : Value) : Moved w v v:=fun _ h=>.inl h
theorem Moved.trans {w w' : World} {v v' v'' : Value} (h : Moved w v v') (h' : Moved w' v' v'') (hs : w.heap.size ≤ w'.heap.size) : Moved w v v'':=fun k hk=>by
 rcases h' k hk with h1 | h1
 ·exact h k h1
 ·exact .inr (by omega)
structure Src (w : World) (size : Nat) (A : Option Addr) (m : Nat) (news : List Value) : Prop where
 nil : A = none → m = 0
 len : news.length = m * size
 at' : ∀ ad,A = some ad → ∀ j u,news[j]? = some u → w.cell? (ad.add j) = some u
 one : ∀ u ∈ news,u.oneCell' = true
theorem zA7 {w w' : World} {size : Nat} {A : Option Addr} {m : Nat} {news : List Value} (h : Src w size A m news) (hb : Below w.heap.size w w') : Src w' size A m news :=
 ⟨h.nil,h.len,fun ad had j u hj=>(Keep.of_below (T:=fun _=>False) hb).cell (h.at' ad had j u hj) (fun h=>h),h.one⟩
structure ElemAt (P : Program) (t e : TypeId) (z : Value) (size bytes : Nat) : Prop where
 und : P.underlying t = some (.slice e)
 info : ∃ i,P.info? e = some i ∧ i.zero = some z ∧ i.size = size ∧ i.bytes = bytes
 zs : z.cells.size = size
 pos : 0 < size
theorem ElemAt.mk' {P : Program} {t e : TypeId} {z : Value} {size bytes : Nat} (h1 : P.underlying t = some (.slice e)) (h : (P.info? e).map (fun i=>(i.zero,i.size,i.bytes)) = some (some z,size,bytes)) (hz : z.cells.size = size) (hp : 0 < size) : ElemAt P t e z size bytes:=by
 obtain ⟨i,a,b,c,d⟩:=info_parts h
 exact ⟨h1,⟨i,a,b,c,d⟩,hz,hp⟩
structure Grew (w w' : World) (base : Nat) (e : TypeId) (size : Nat) (v v' : Value) (n : Nat) (xs : List Value) : Prop where
 own : w'.ownsRow base e size v' n xs
 grown : w.grownBy w' v.ownBlock
 moved : Moved w v v'
 below : ∀ k,v'.ownBlock = some k → base ≤ k
theorem zAK {w : World} {base : Nat} {e : TypeId} {sz : Nat} {v : Value} {n : Nat} {xs : List Value} (h : w.ownsRow base e sz v n xs) : ∃ A cap,v = .slice A n cap:=by
 rcases h.2 with ⟨h,h0⟩ | ⟨g,cap,_,h,_⟩
 ·exact ⟨none,0,by rw [h0]; exact h⟩
 ·exact ⟨_,cap,h⟩
theorem zCP {P : Program} (w : World) (base : Nat) (t ty e : TypeId) (z : Value) (size bytes : Nat) (he : ElemAt P t e z size bytes) (v : Value) (n : Nat) (xs : List Value) (hown : w.ownsRow base e size v n xs)
  (A : Option Addr) (m c : Nat) (news : List Value) (hA : Src w size A m news) (h63 : n + m ≤ maxLen) (hbytes : (n + m) * bytes ≤ 140737488355328) (hbase : base ≤ w.heap.size) :
  ∃ v' w',(Builtin.append_ #[t,t] ty #[v,.slice A m c]).run P w = .ok v' w' ∧ Grew w w' base e size v v' (n + m) (xs ++ news):=by
 obtain ⟨ht,⟨i,hi,hz,hsize,hby⟩,hzs,hsz⟩:=he
 cases A with
 | none =>
  obtain rfl:=hA.nil rfl
  have hn : news = []:=List.eq_nil_of_length_eq_zero (by simpa using hA.len)
  subst hn
  exact ⟨v,w,zBr w base t ty e i size ht hi v n xs hown c,by simpa using hown,⟨rfl,rfl,rfl,Nat.le_refl _,fun _ _ _=>rfl⟩,zBV _ _,fun k hk=>(hown.lt k hk).1⟩
 | some ad =>
  obtain ⟨v',w',hr,h2,h3,h4,h5⟩:=run_append_own_at (P:=P) w base t ty e i z size bytes ht hi hz hsize hby hzs hsz v n xs hown ad m c news hA.len (hA.at' ad rfl) hA.one h63 hbytes hbase
  refine ⟨v',w',hr,h2,h3,fun k hk=>?_,fun k hk=>(h2.lt k hk).1⟩
  rcases h5 with h5 | h5
  ·exact .inl (by rw [← h5]; exact hk)
  ·rw [h5,Option.some.injEq] at hk
   exact .inr (by omega)
theorem zBa {P : Program} {o : Oper} {a : Act} {w : World} {K : Act → World → Prop} {Q : Exit → Act → World → Prop} (s x : Operand) (t : TypeId)
  (ho : o.op = .call { callee:=.builtin .append,args:=#[s,x],argTypes:=#[t,t] })
  (base : Nat) (e : TypeId) (z : Value) (size bytes : Nat) (he : ElemAt P t e z size bytes) (v : Value) (n : Nat) (xs : List Value) (hs : a.eval s = v) (hown : w.ownsRow base e size v n xs)
  (A : Option Addr) (m c : Nat) (news : List Value) (hx : a.eval x = .slice A m c) (hA : Src w size A m news) (h63 : n + m ≤ maxLen) (hbytes : (n + m) * bytes ≤ 140737488355328) (hbase : base ≤ w.heap.size)
  (h : ∀ v' w',Grew w w' base e size v v' (n + m) (xs ++ news) → K (a.put o.dst v') w') : Oper.wp P o a w K Q:=by
 obtain ⟨v',w',hr,h2⟩:=zCP (P:=P) w base t o.type e z size bytes he v n xs hown A m c news hA h63 hbytes hbase
 unfold Oper.wp execOp
 simp only [ho,resolve,invoke,builtin,Sem.run_bind,Sem.run_pure,Result.andThen_ok,List.map_toArray,List.map_cons,List.map_nil,hs,hx,hr]
 exact h v' w' h2
theorem zBH {P : Program} {ops : Array Oper} {o : Oper} {a : Act} {w : World} {K : Act → World → Prop} {Q : Exit → Act → World → Prop} {E : Prop} (hg : o.guard = none) (s x : Operand) (t : TypeId)
  (ho : o.op = .call { callee:=.builtin .append,args:=#[s,x],argTypes:=#[t,t] })
  (base : Nat) (e : TypeId) (z : Value) (size bytes : Nat) (he : ElemAt P t e z size bytes) (v : Value) (n : Nat) (xs : List Value) (hs : a.eval s = v) (hown : w.ownsRow base e size v n xs)
  (A : Option Addr) (m c : Nat) (news : List Value) (hx : a.eval x = .slice A m c) (hA : Src w size A m news) (h63 : n + m ≤ maxLen) (hbytes : (n + m) * bytes ≤ 140737488355328) (hbase : base ≤ w.heap.size)
  (h : ∀ v' w',Grew w w' base e size v v' (n + m) (xs ++ news) → K (a.put o.dst v') w') : if Region.wanted o (yielded ops a.tmps) = true then Oper.wp P o a w K Q else E:=by
 have hw : Region.wanted o (yielded ops a.tmps) = true:=by simp [Region.wanted,hg]
 rw [if_pos hw]
 exact zBa s x t ho base e z size bytes he v n xs hs hown A m c news hx hA h63 hbytes hbase h
theorem zAI {P : Program} {ops : Array Oper} {rest : List Oper} {o : Oper} {a : Act} {w : World} {Q : Exit → Act → World → Prop} (hg : o.guard = none) (s x : Operand) (t : TypeId)
  (ho : o.op = .call { callee:=.builtin .append,args:=#[s,x],argTypes:=#[t,t] })
  (base : Nat) (e : TypeId) (z : Value) (size bytes : Nat) (he : ElemAt P t e z size bytes) (v : Value) (n : Nat) (xs : List Value) (hs : a.eval s = v) (hown : w.ownsRow base e size v n xs)
  (A : Option Addr) (m c : Nat) (news : List Value) (hx : a.eval x = .slice A m c) (hA : Src w size A m news) (h63 : n + m ≤ maxLen) (hbytes : (n + m) * bytes ≤ 140737488355328) (hbase : base ≤ w.heap.size)
  (h : ∀ v' w',Grew w w' base e size v v' (n + m) (xs ++ news) → wpList P ops Q rest (a.put o.dst v') w') : wpList P ops Q (o :: rest) a w :=
 wpList_plain hg fun _ hK=>zBa s x t ho base e z size bytes he v n xs hs hown A m c news hx hA h63 hbytes hbase fun v' w' h2=>hK _ _ (h v' w' h2)
end
section
abbrev pt (p : Nat) : Value:=.pointer (some ⟨p,0,none⟩)
theorem zBK (b off i : Nat) : ({ block:=b,off:=off,spot:=none } : Addr).add i = { block:=b,off:=off + i,spot:=none }:=by
 unfold Addr.add
 split
 ·rename_i h
  subst h
  rfl
 ·rfl
structure Thing where
 P : World → Prop
 F : Nat → Prop
structure Thing.Ok (base : Nat) (A : Thing) : Prop where
 keep : ∀ (w w' : World) (T : Nat → Prop),A.P w → Keep T w w' → (∀ i,A.F i → ¬ T i) → A.P w'
 lt : ∀ (w : World) (i : Nat),A.P w → A.F i → base ≤ i ∧ i < w.heap.size
structure Hold (W w : World) (l : List Thing) : Prop where
 size : W.heap.size ≤ w.heap.size
 below : Below W.heap.size W w
 ok : ∀ (i : Nat) (A : Thing),l[i]? = some A → A.Ok W.heap.size
 has : ∀ (i : Nat) (A : Thing),l[i]? = some A → A.P w
 apart : ∀ (i j : Nat) (A B : Thing),l[i]? = some A → l[j]? = some B → i ≠ j → ∀ k,A.F k → ¬ B.F k
section
variable {W w w' : World} {l : List Thing}
theorem Hold.nil {W w : World} (h : Below W.heap.size W w) : Hold W w []:=⟨h.size,h,(fun _ _ h=>by simp at h),(fun _ _ h=>by simp at h),fun _ _ _ _ h=>by simp at h⟩
theorem Hold.keep0 (h : Hold W w l) {T : Nat → Prop} (k : Keep T w w') (hT : ∀ i,T i → W.heap.size ≤ i) (hn : ∀ (i : Nat) (A : Thing),l[i]? = some A → ∀ q,A.F q → ¬ T q) : Hold W w' l :=
 ⟨Nat.le_trans h.size k.size,zAw h.below k h.size hT,h.ok,fun i A hi=>(h.ok i A hi).keep w w' T (h.has i A hi) k (hn i A hi),h.apart⟩
theorem Hold.later (h : Hold W w l) (e : Below w.heap.size w w') : Hold W w' l :=
 h.keep0 (T:=fun _=>False) (Keep.of_below e) (fun _ h=>h.elim) (fun _ _ _ _ _ h=>h)
theorem zAf {l : List Thing} {i j : Nat} {A B A' : Thing} (hi : l[i]? = some A) (hj : (l.set i A')[j]? = some B) : (i = j ∧ B = A') ∨ (i ≠ j ∧ l[j]? = some B):=by
 rw [List.getElem?_set] at hj
 by_cases h : i = j
 ·subst h
  rw [if_pos rfl,if_pos (List.getElem?_eq_some_iff.1 hi).1] at hj
  exact .inl ⟨rfl,(Option.some.inj hj).symm⟩
 ·rw [if_neg h] at hj
  exact .inr ⟨h,hj⟩
theorem Hold.turn (h : Hold W w l) (i : Nat) {A A' : Thing} (hi : l[i]? = some A) (k : Keep A.F w w') (ok' : A'.Ok W.heap.size) (hP : A'.P w') (hF : ∀ q,A'.F q → A.F q ∨ w.heap.size ≤ q) : Hold W w' (l.set i A'):=by
 have hlt:=fun q=>(h.ok i A hi).lt w q (h.has i A hi)
 have hold : ∀ (j : Nat) (B : Thing),l[j]? = some B → i ≠ j → B.P w':=fun j B hj hne=>(h.ok j B hj).keep w w' A.F (h.has j B hj) k (fun q hq=>h.apart j i B A hj hi (fun e=>hne e.symm) q hq)
 refine ⟨Nat.le_trans h.size k.size,zAw h.below k h.size (fun q hq=>(hlt q hq).1),fun j B hj=>?_,fun j B hj=>?_,fun j e B E hj he hne q hq hq'=>?_⟩
 ·rcases zAf hi hj with ⟨_,rfl⟩ | ⟨_,hj⟩
  ·exact ok'
  ·exact h.ok j B hj
 ·rcases zAf hi hj with ⟨_,rfl⟩ | ⟨hij,hj⟩
  ·exact hP
  ·exact hold j B hj hij
 ·rcases zAf hi hj with ⟨h1,rfl⟩ | ⟨h1,hj1⟩
  ·rcases zAf hi he with ⟨h2,rfl⟩ | ⟨h2,he1⟩
   ·omega
   ·rcases hF q hq with h3 | h3
    ·exact h.apart i e A E hi he1 h2 q h3 hq'
    ·have:=((h.ok e E he1).lt w q (h.has e E he1) hq').2
     omega
  ·rcases zAf hi he with ⟨h2,rfl⟩ | ⟨h2,he1⟩
   ·rcases hF q hq' with h3 | h3
    ·exact h.apart j i B A hj1 hi (fun e=>h1 e.symm) q hq h3
    ·have:=((h.ok j B hj1).lt w q (h.has j B hj1) hq).2
     omega
   ·exact h.apart j e B E hj1 he1 hne q hq hq'
theorem Hold.turn2 (h : Hold W w l) (i j : Nat) {A A' B B' : Thing} (hne : i ≠ j) (hi : l[i]? = some A) (hj : l[j]? = some B) (k : Keep (fun q=>B.F q ∨ A.F q) w w') (okA : A'.Ok W.heap.size) (okB : B'.Ok W.heap.size) (hA : A'.P w') (hB : B'.P w')
  (hFA : ∀ q,A'.F q → A.F q ∨ w.heap.size ≤ q) (hFB : ∀ q,B'.F q → B.F q) : Hold W w' ((l.set i A').set j B'):=by
 have hj' : (l.set i A')[j]? = some B:=by rw [List.getElem?_set,if_neg hne]; exact hj
 have hltA:=fun q=>(h.ok i A hi).lt w q (h.has i A hi)
 have hltB:=fun q=>(h.ok j B hj).lt w q (h.has j B hj)
 have hold : ∀ (e : Nat) (E : Thing),l[e]? = some E → i ≠ e → j ≠ e → E.P w':=fun e E he h1 h2=>(h.ok e E he).keep w w' _ (h.has e E he) k (fun q hq hc=>hc.elim (h.apart e j E B he hj (fun x=>h2 x.symm) q hq) (h.apart e i E A he hi (fun x=>h1 x.symm) q hq))
 have cases2 : ∀ (e : Nat) (E : Thing),((l.set i A').set j B')[e]? = some E → (e = j ∧ E = B') ∨ (e = i ∧ E = A') ∨ (i ≠ e ∧ j ≠ e ∧ l[e]? = some E):=by
  intro e E he
  rcases zAf hj' he with ⟨h1,rfl⟩ | ⟨h1,he⟩
  ·exact .inl ⟨h1.symm,rfl⟩
  ·rcases zAf hi he with ⟨h2,rfl⟩ | ⟨h2,he⟩
   ·exact .inr (.inl ⟨h2.symm,rfl⟩)
   ·exact .inr (.inr ⟨h2,h1,he⟩)
 have AB : ∀ q,A'.F q → B'.F q → False:=fun q h1 h2=>by
  rcases hFA q h1 with h3 | h3
  ·exact h.apart i j A B hi hj hne q h3 (hFB q h2)
  ·have:=(hltB q (hFB q h2)).2
   omega
 have AE : ∀ (e : Nat) (E : Thing) (q : Nat),l[e]? = some E → i ≠ e → E.F q → A'.F q → False:=fun e E q he h1 h2 h3=>by
  rcases hFA q h3 with h4 | h4
  ·exact h.apart i e A E hi he h1 q h4 h2
  ·have:=((h.ok e E he).lt w q (h.has e E he) h2).2
   omega
 have BE : ∀ (e : Nat) (E : Thing) (q : Nat),l[e]? = some E → j ≠ e → E.F q → B'.F q → False:=fun e E q he h1 h2 h3=>h.apart j e B E hj he h1 q (hFB q h3) h2
 refine ⟨Nat.le_trans h.size k.size,zAw h.below k h.size (fun q hq=>hq.elim (fun h=>(hltB q h).1) (fun h=>(hltA q h).1)),fun e E he=>?_,fun e E he=>?_,fun e f E G he hf hef q hq hq'=>?_⟩
 ·rcases cases2 e E he with ⟨_,rfl⟩ | ⟨_,rfl⟩ | ⟨_,_,he⟩
  ·exact okB
  ·exact okA
  ·exact h.ok e E he
 ·rcases cases2 e E he with ⟨_,rfl⟩ | ⟨_,rfl⟩ | ⟨h1,h2,he⟩
  ·exact hB
  ·exact hA
  ·exact hold e E he h1 h2
 ·rcases cases2 e E he with ⟨h1,rfl⟩ | ⟨h1,rfl⟩ | ⟨h1,h2,he1⟩
  ·rcases cases2 f G hf with ⟨h3,rfl⟩ | ⟨h3,rfl⟩ | ⟨h3,h4,hf1⟩
   ·omega
   ·exact AB q hq' hq
   ·exact BE f G q hf1 h4 hq' hq
  ·rcases cases2 f G hf with ⟨h3,rfl⟩ | ⟨h3,rfl⟩ | ⟨h3,h4,hf1⟩
   ·exact AB q hq hq'
   ·omega
   ·exact AE f G q hf1 h3 hq' hq
  ·rcases cases2 f G hf with ⟨h3,rfl⟩ | ⟨h3,rfl⟩ | ⟨h3,h4,hf1⟩
   ·exact BE e E q he1 h2 hq hq'
   ·exact AE e E q he1 h1 hq hq'
   ·exact h.apart e f E G he1 hf1 hef q hq hq'
theorem Hold.more (h : Hold W w l) {A : Thing} (e : Below w.heap.size w w') (ok : A.Ok W.heap.size) (hP : A.P w') (hF : ∀ q,A.F q → w.heap.size ≤ q) : Hold W w' (l ++ [A]):=by
 have h':=h.later e
 have cs : ∀ (i : Nat) (B : Thing),(l ++ [A])[i]? = some B → l[i]? = some B ∨ (i = l.length ∧ B = A):=by
  intro i B hi
  rcases Nat.lt_or_ge i l.length with hl | hl
  ·rw [List.getElem?_append_left hl] at hi
   exact .inl hi
  ·rw [List.getElem?_append_right hl] at hi
   rcases (by omega : i - l.length = 0 ∨ 1 ≤ i - l.length) with h0 | h0
   ·rw [h0] at hi
    exact .inr ⟨by omega,(Option.some.inj hi).symm⟩
   ·rw [List.getElem?_eq_none (by simpa using h0)] at hi
    cases hi
 refine ⟨h'.size,h'.below,fun i B hi=>?_,fun i B hi=>?_,fun i j B E hi hj hne q hq hq'=>?_⟩
 ·rcases cs i B hi with hi | ⟨_,rfl⟩
  ·exact h.ok i B hi
  ·exact ok
 ·rcases cs i B hi with hi | ⟨_,rfl⟩
  ·exact h'.has i B hi
  ·exact hP
 ·rcases cs i B hi with hi1 | ⟨h1,rfl⟩
  ·rcases cs j E hj with hj1 | ⟨h2,rfl⟩
   ·exact h.apart i j B E hi1 hj1 hne q hq hq'
   ·have:=((h.ok i B hi1).lt w q (h.has i B hi1) hq).2
    have:=hF q hq'
    omega
  ·rcases cs j E hj with hj1 | ⟨h2,rfl⟩
   ·have:=((h.ok j E hj1).lt w q (h.has j E hj1) hq').2
    have:=hF q hq
    omega
   ·omega
theorem Hold.less {m : List Thing} (h : Hold W w (l ++ m)) : Hold W w l :=
 have up : ∀ (i : Nat) (A : Thing),l[i]? = some A → (l ++ m)[i]? = some A:=fun i A hi=>by rw [List.getElem?_append_left (List.getElem?_eq_some_iff.1 hi).1]; exact hi
 ⟨h.size,h.below,fun i A hi=>h.ok i A (up i A hi),fun i A hi=>h.has i A (up i A hi),fun i j A B hi hj=>h.apart i j A B (up i A hi) (up j B hj)⟩
end
structure IsObj (w : World) (b : Nat) (xs : List Value) : Prop where
 at' : ∀ j x,xs[j]? = some x → w.cell? ⟨b,j,none⟩ = some x
 fz : ∀ o,w.frozen? ⟨b,o,none⟩ = false
 lt : b < w.heap.size
section
variable {w w' : World} {b : Nat} {xs : List Value}
theorem IsObj.keep {T : Nat → Prop} (h : IsObj w b xs) (e : Keep T w w') (hn : ¬ T b) : IsObj w' b xs :=
 ⟨fun j x hx=>e.cell (h.at' j x hx) hn,fun o=>(e.frozen (a:=⟨b,o,none⟩) h.lt hn).trans (h.fz o),Nat.lt_of_lt_of_le h.lt e.size⟩
theorem IsObj.later (h : IsObj w b xs) (e : Below w.heap.size w w') : IsObj w' b xs:=h.keep (T:=fun _=>False) (Keep.of_below e) (fun h=>h)
theorem IsObj.drew (h : IsObj w b xs) : IsObj w.drew b xs:=⟨h.at',h.fz,h.lt⟩
theorem IsObj.set (h : IsObj w b xs) (i : Nat) (u : Value) : IsObj (w.setCell ⟨b,i,none⟩ u) b (xs.set i u):=by
 refine ⟨fun j x hj=>?_,fun o=>by rw [World.frozen?_setCell]; exact h.fz o,by simpa [World.setCell] using h.lt⟩
 rw [List.getElem?_set] at hj
 by_cases hij : i = j
 ·subst hij
  rw [if_pos rfl] at hj
  split at hj
  ·rename_i hl
   cases hj
   exact World.cell?_setCell_same _ _ _ (h.at' i _ (List.getElem?_eq_getElem hl))
  ·cases hj
 ·rw [if_neg hij] at hj
  rw [World.cell?_setCell_other _ _ _ _ (fun e=>hij (by injection e))]
  exact h.at' j x hj
theorem IsObj.other {a : Nat} (h : IsObj w b xs) (i : Nat) (u : Value) (hne : a ≠ b) : IsObj (w.setCell ⟨a,i,none⟩ u) b xs :=
 ⟨fun j x hj=>by rw [World.cell?_setCell_other _ _ _ _ (fun e=>hne (by injection e))]; exact h.at' j x hj,fun o=>by rw [World.frozen?_setCell]; exact h.fz o,by simpa [World.setCell] using h.lt⟩
theorem IsObj.made (w : World) (xs : List Value) (t : TypeId) : IsObj (w.alloc (.cells ⟨xs⟩ t)) w.heap.size xs :=
 ⟨fun j x hj=>by
  have h:=World.cell?_alloc_new w ⟨xs⟩ t j
  rw [← Array.getElem?_toList] at h
  exact h.trans hj,fun o=>World.frozen?_alloc_at _ _ _ _ rfl,by simp⟩
end
theorem zAW : ElemAt Tryz.prog 38 41 (.int .u64 0) 1 8 :=
 ElemAt.mk' Tryz.underlying38 (by kernel_rfl) rfl (by decide)
theorem zBu : ElemAt Tryz.prog 40 3 (.int .i64 0) 1 8:=ElemAt.mk' Tryz.underlying40 (by kernel_rfl) rfl (by decide)
def tRow (base : Nat) (e : TypeId) (sz : Nat) (v : Value) (n : Nat) (xs : List Value) : Thing:=⟨fun w=>w.ownsRow base e sz v n xs,fun k=>v.ownBlock = some k⟩
def tObj (base b : Nat) (xs : List Value) : Thing:=⟨fun w=>IsObj w b xs ∧ base ≤ b,fun i=>i = b⟩
theorem zA5 (base : Nat) (e : TypeId) (sz : Nat) (v : Value) (n : Nat) (xs : List Value) : (tRow base e sz v n xs).Ok base :=
 ⟨fun _ _ _ h k hn=>k.row h hn,fun _ i h hi=>World.ownsRow.lt h i hi⟩
theorem zAP (base b : Nat) (xs : List Value) : (tObj base b xs).Ok base :=
 ⟨fun _ _ _ h k hn=>⟨h.1.keep k (hn b rfl),h.2⟩,fun _ i h hi=>by cases hi; exact ⟨h.2,h.1.lt⟩⟩
end
section
theorem zBC (w : World) (cs : List Value) (ty : TypeId) (size m : Nat) (hl : cs.length = m * size) (h1 : ∀ u ∈ cs,u.oneCell' = true) : Src (w.alloc (.cells cs.toArray ty)) size (some ⟨w.heap.size,0,none⟩) m cs :=
 ⟨(fun h=>by cases h),hl,fun ad had j u hj=>by
  cases had
  rw [zBK,Nat.zero_add]
  have : (w.alloc (.cells cs.toArray ty)).cell? ⟨w.heap.size,j,none⟩ = cs.toArray[j]?:=World.cell?_alloc_new w _ _ j
  rw [this,List.getElem?_toArray]
  exact hj,h1⟩
theorem zDM (k : IntKind) (x : Int) : ∀ u ∈ [Value.int k x],u.oneCell' = true:=by
 intro u hu
 simp at hu
 rw [hu]
 rfl
section
variable {W w w' : World} {l : List Thing}
theorem Hold.append (h : Hold W w l) (i : Nat) {base : Nat} {e : TypeId} {sz n n' : Nat} {v v' : Value} {xs xs' : List Value} (hb : base = W.heap.size) (hi : l[i]? = some (tRow base e sz v n xs)) (g : Grew w w' base e sz v v' n' xs') : Hold W w' (l.set i (tRow base e sz v' n' xs')):=by
 subst hb
 exact h.turn i hi (Keep.of_grown g.grown (fun k hk=>hk)) (zA5 _ _ _ _ _ _) g.own (fun q hq=>g.moved q hq)
theorem zAi (w : World) (base : Nat) (e : TypeId) (sz : Nat) (hb : base ≤ w.heap.size) : (tRow base e sz (.slice (some ⟨w.heap.size,0,none⟩) 0 0) 0 []).P (w.alloc (.cells #[] e)) :=
 World.ownsRow_made (base:=base) (e:=e) (size:=sz) w #[] 0 hb (by unfold maxLen; omega) (by simp)
theorem zHc {w : World} {base : Nat} {e : TypeId} {sz n cap : Nat} {xs : List Value} : ∀ q,(tRow base e sz (.slice (some ⟨w.heap.size,0,none⟩) n cap) n xs).F q → w.heap.size ≤ q:=by
 intro q hq
 cases hq
 exact Nat.le_refl _
end
theorem zBp {w : World} {base : Nat} {e : TypeId} {n : Nat} {v : Value} {xs : List Value} (h : w.ownsRow base e 1 v n xs) (hn : 0 < n) : ∃ g cap,v = .slice (some ⟨g,0,none⟩) n cap ∧ n ≤ cap ∧ g < w.heap.size:=by
 rcases h.2 with ⟨_,h0⟩ | ⟨g,cap,cur,rfl,_,hh,hc,_⟩
 ·omega
 ·exact ⟨g,cap,rfl,hc,(Array.getElem?_eq_some_iff.1 hh).1⟩
theorem zH8 {w : World} {base : Nat} {e : TypeId} {n cap g : Nat} {X : List Int} {k : IntKind} (h : w.ownsRow base e 1 (.slice (some ⟨g,0,none⟩) n cap) n (X.map (Value.int k))) {j : Nat} (hj : j < n) : w.cell? ⟨g,j,none⟩ = some (.int k (X.getD j 0)):=by
 have hl:=h.1
 rw [List.length_map] at hl
 rw [h.cellAt j (by omega),List.getElem?_map,List.getD_eq_getElem?_getD,List.getElem?_eq_getElem (by omega)]
 rfl
end
section
theorem zBe (a : Int) (m k : Nat) (hm : m + 1 = 2 ^ k) (hk : k ≤ 32) : bits .and .i64 a (m : Int) = a % ((m : Int) + 1):=by
 have h2 : 2 ^ k ≤ 2 ^ 32:=Nat.pow_le_pow_right (by decide) hk
 show IntKind.i64.wrap ((BitVec.ofInt 64 a &&& BitVec.ofInt 64 (m : Int)).toNat : Int) = _
 have hm' : (BitVec.ofInt 64 (m : Int)).toNat = m:=by
  rw [BitVec.toNat_ofInt]
  omega
 rw [BitVec.toNat_and,hm',show m = 2 ^ k - 1 by omega,Nat.and_two_pow_sub_one_eq_mod,BitVec.toNat_ofInt, ← hm,IntKind.wrap_i64]
 have hd : ((m + 1 : Nat) : Int) ∣ 18446744073709551616:=by
  rw [hm]
  refine ⟨((2 ^ (64 - k) : Nat) : Int), ?_⟩
  rw [← Int.natCast_mul, ← Nat.pow_add,show k + (64 - k) = 64 by omega]
  rfl
 have e1 : (((a % ((2 ^ 64 : Nat) : Int)).toNat % (m + 1) : Nat) : Int) = a % ((m : Int) + 1):=by
  rw [Int.natCast_emod,Int.toNat_of_nonneg (by omega)]
  have:=Int.emod_emod_of_dvd a hd
  simpa using this
 rw [e1]
 have h0:=Int.emod_nonneg a (show ((m : Int) + 1) ≠ 0 by omega)
 have h1:=Int.emod_lt_of_pos a (show (0 : Int) < (m : Int) + 1 by omega)
 have h3 : ((m : Int) + 1) ≤ 4294967296:=by
  have : m + 1 ≤ 4294967296:=by omega
  omega
 simp only [show m + 1 - 1 = m by omega]
 omega
end
end
section
open Go.RowKit
structure CM where
 k : Int
 who : Int
 ck : Int
 ce : Int
 v : Int
 st : Int
 n : Int
def CM.beg (m : CM) : Prop:=m.k = 0 ∧ 0 ≤ m.who ∧ m.who < 64 ∧ m.n = 0 ∧ (m.ce = 0 ∨ m.ce = 1) ∧ ((m.ck = 0 ∧ m.st = 0) ∨ (m.ck = 1 ∧ m.v = 0 ∧ 0 ≤ m.st ∧ m.st ≤ 255))
def CM.stp (m : CM) : Prop:=m.k = 1 ∧ 0 ≤ m.who ∧ m.who < 64 ∧ m.ck = 0 ∧ m.ce = 0 ∧ m.v = 0 ∧ m.st = 0 ∧ m.n = 0
def CM.pas (m : CM) : Prop:=m.k = 2 ∧ m.who = 0 ∧ m.ck = 0 ∧ m.ce = 0 ∧ m.v = 0 ∧ m.st = 0 ∧ 1 ≤ m.n ∧ m.n ≤ 65535
def CM.Right (m : CM) : Prop:=m.beg ∨ m.stp ∨ m.pas
def CM.Fit (m : CM) : Prop:=0 ≤ m.v ∧ m.v ≤ 18446744073709551615
def CM.Good (m : CM) : Prop:=m.Right ∧ m.Fit
def le8 : Nat → Int → List Int
 | 0,_=>[]
 | n + 1,x=>x % 256 :: le8 n (x / 256)
def un8 : List Int → Int
 | []=>0
 | b :: l=>b + 256 * un8 l
theorem zAo : ∀ (n : Nat) (x : Int),(le8 n x).length = n
 | 0,_=>rfl
 | n + 1,x=>by rw [le8,List.length_cons,zAo]
theorem zEg : ∀ (n : Nat) (x : Int),le8 (n + 1) x = le8 n x ++ [x / 256 ^ n % 256]
 | 0,x=>by rw [le8,le8,le8,List.nil_append,Int.pow_zero,Int.ediv_one]
 | n + 1,x=>by
  rw [le8,zEg n (x / 256),le8,List.cons_append,Int.pow_succ,Int.mul_comm,Int.ediv_ediv_of_nonneg (by omega)]
theorem zDA : ∀ (n : Nat) (x : Int),∀ b ∈ le8 n x,0 ≤ b ∧ b ≤ 255
 | 0,_,b,h=>by cases h
 | n + 1,x,b,h=>by
  rw [le8,List.mem_cons] at h
  rcases h with rfl | h
  ·omega
  ·exact zDA n _ b h
theorem zCU : ∀ (n : Nat) (x : Int),0 ≤ x → x < 256 ^ n → un8 (le8 n x) = x
 | 0,x,h0,h1=>by
  rw [Int.pow_zero] at h1
  rw [le8,un8]
  omega
 | n + 1,x,h0,h1=>by
  rw [Int.pow_succ] at h1
  rw [le8,un8,zCU n (x / 256) (by omega) (by omega)]
  omega
theorem zFw : ∀ (l : List Int),(∀ b ∈ l,0 ≤ b ∧ b ≤ 255) → le8 l.length (un8 l) = l
 | [],_=>rfl
 | b :: l,h=>by
  have hb:=h b List.mem_cons_self
  rw [List.length_cons,le8,un8,show (b + 256 * un8 l) % 256 = b by omega,show (b + 256 * un8 l) / 256 = un8 l by omega,zFw l (fun c hc=>h c (List.mem_cons_of_mem _ hc))]
theorem zEH : ∀ (l : List Int),(∀ b ∈ l,0 ≤ b ∧ b ≤ 255) → 0 ≤ un8 l ∧ un8 l < 256 ^ l.length
 | [],_=>by rw [un8,List.length_nil,Int.pow_zero]; omega
 | b :: l,h=>by
  have hb:=h b List.mem_cons_self
  have ih:=zEH l (fun c hc=>h c (List.mem_cons_of_mem _ hc))
  rw [un8,List.length_cons,Int.pow_succ]
  omega
theorem zFv {n : Nat} {x y : Int} (x0 : 0 ≤ x) (x1 : x < 256 ^ n) (y0 : 0 ≤ y) (y1 : y < 256 ^ n) (h : le8 n x = le8 n y) : x = y:=by
 rw [← zCU n x x0 x1,h,zCU n y y0 y1]
theorem zBj : ∀ (l : List Int) (i : Nat) (b : Int),l[i]? = some b → un8 (l.take (i + 1)) = un8 (l.take i) + b * 256 ^ i
 | [],i,b,h=>by simp at h
 | c :: l,0,b,h=>by
  cases h
  show c + 256 * un8 [] = un8 [] + c * 256 ^ 0
  have h0 : un8 [] = 0:=rfl
  rw [h0,Int.pow_zero]
  omega
 | c :: l,i + 1,b,h=>by
  rw [List.getElem?_cons_succ] at h
  rw [List.take_succ_cons,List.take_succ_cons,un8,un8,zBj l i b h,Int.pow_succ,Int.mul_add,Int.mul_comm (256 ^ i) 256, ← Int.mul_assoc, ← Int.mul_assoc,Int.mul_comm b 256]
  omega
def CM.enc (m : CM) : List Int :=
 if m.k = 1 then [1,m.who] else if m.k = 2 then 2 :: le8 2 m.n else 0 :: m.who :: (m.ck + 2 * m.ce) :: (if m.ck = 0 then le8 8 m.v else [m.st])
def encs : List CM → List Int
 | []=>[]
 | m :: l=>m.enc ++ encs l
theorem zCb : ∀ a b : List CM,encs (a ++ b) = encs a ++ encs b
 | [],_=>rfl
 | m :: a,b=>by rw [List.cons_append,encs,encs,zCb a b,List.append_assoc]
theorem zBm (a : List CM) (m : CM) : encs (a ++ [m]) = encs a ++ m.enc:=by rw [zCb,encs,encs,List.append_nil]
theorem zEA (m : CM) : 2 ≤ m.enc.length ∧ m.enc.length ≤ 11:=by
 unfold CM.enc
 split
 ·exact ⟨Nat.le_refl _,(by decide : 2 ≤ 11)⟩
 ·split
  ·rw [List.length_cons,zAo]; omega
  ·split
   ·simp only [List.length_cons,zAo]; omega
   ·simp only [List.length_cons,List.length_nil]; omega
theorem zDS : ∀ l : List CM,2 * l.length ≤ (encs l).length ∧ (encs l).length ≤ 11 * l.length
 | []=>⟨Nat.le_refl _,Nat.le_refl _⟩
 | m :: l=>by
  have h1:=zEA m
  have h2:=zDS l
  rw [encs,List.length_append,List.length_cons]
  omega
theorem zHi {m : CM} (h : m.Right) : ∀ b ∈ m.enc,0 ≤ b ∧ b ≤ 255:=by
 unfold CM.enc
 rcases h with h | h | h
 ·obtain ⟨h1,h2,h3,h4,h5,h6⟩:=h
  rw [if_neg (by omega),if_neg (by omega)]
  intro b hb
  rw [List.mem_cons,List.mem_cons,List.mem_cons] at hb
  rcases hb with rfl | rfl | rfl | hb
  ·omega
  ·omega
  ·omega
  ·split at hb
   ·exact zDA _ _ b hb
   ·rw [List.mem_singleton] at hb
    omega
 ·obtain ⟨h1,h2,h3,h4⟩:=h
  rw [if_pos h1]
  intro b hb
  simp only [List.mem_cons,List.not_mem_nil,or_false] at hb
  omega
 ·obtain ⟨h1,h2⟩:=h
  rw [if_neg (by omega),if_pos h1]
  intro b hb
  rw [List.mem_cons] at hb
  rcases hb with rfl | hb
  ·omega
  ·exact zDA _ _ b hb
theorem zDj : ∀ {l : List CM},(∀ m ∈ l,m.Right) → ∀ b ∈ encs l,0 ≤ b ∧ b ≤ 255
 | [],_,b,h=>by cases h
 | m :: l,hl,b,h=>by
  rw [encs,List.mem_append] at h
  rcases h with h | h
  ·exact zHi (hl m List.mem_cons_self) b h
  ·exact zDj (fun x hx=>hl x (List.mem_cons_of_mem _ hx)) b h
theorem zIg {m m' : CM} {r r' : List Int} (h : m.Good) (h' : m'.Good) (he : m.enc ++ r = m'.enc ++ r') : m = m' ∧ r = r':=by
  have key : ∀ {a a' : CM},a.Good → a'.Good → a.k = a'.k → ∀ s s',a.enc ++ s = a'.enc ++ s' → a = a' ∧ s = s':=by
    intro a a' g g' hk s s' e
    obtain ⟨k,who,ck,ce,v,st,n⟩:=a
    obtain ⟨k',who',ck',ce',v',st',n'⟩:=a'
    have hk2 : k = k':=hk
    subst hk2
    obtain ⟨gr,v0,v1⟩:=g
    obtain ⟨gr',v0',v1'⟩:=g'
    simp only at v0 v1 v0' v1'
    unfold CM.Right CM.beg CM.stp CM.pas at gr gr'
    simp only at gr gr'
    unfold CM.enc at e
    simp only at e
    by_cases k1 : k = 1
    · rw [if_pos k1,if_pos k1] at e
      simp only [List.cons_append,List.nil_append,List.cons.injEq,true_and] at e
      obtain ⟨e1,e2⟩:=e
      exact ⟨by rw [CM.mk.injEq]; omega,e2⟩
    · rw [if_neg k1,if_neg k1] at e
      by_cases k2 : k = 2
      · rw [if_pos k2,if_pos k2,List.cons_append,List.cons_append,List.cons.injEq] at e
        obtain ⟨e1,e2⟩:=List.append_inj e.2 (by rw [zAo,zAo])
        have :=     zFv (n := 2) (by omega) (by have : (256 : Int) ^ 2 = 65536 := by decide
                                                omega) (by omega) (by have : (256 : Int) ^ 2 = 65536 := by decide
                                                                      omega) e1
        exact ⟨by rw [CM.mk.injEq]; omega,e2⟩
      · rw [if_neg k2,if_neg k2] at e
        simp only [List.cons_append,List.cons.injEq,true_and] at e
        obtain ⟨e1,e2,e3⟩:=e
        have hck : ck = ck':=by omega
        have hce : ce = ce':=by omega
        subst hck hce
        by_cases c0 : ck = 0
        · rw [if_pos c0,if_pos c0] at e3
          obtain ⟨e4,e5⟩:=List.append_inj e3 (by rw [zAo,zAo])
          have h256 : (256 : Int) ^ 8 = 18446744073709551616:=by decide
          have:=zFv (n:=8) v0 (by omega) v0' (by omega) e4
          exact ⟨by rw [CM.mk.injEq]; omega,e5⟩
        · rw [if_neg c0,if_neg c0,List.cons_append,List.cons_append,List.cons.injEq] at e3
          exact ⟨by rw [CM.mk.injEq]; omega,e3.2⟩
  have first : ∀ {a : CM},a.Good → ∀ s,(a.enc ++ s)[0]? = some a.k:=by
    intro a g s
    have hr:=g.1
    unfold CM.enc
    split
    · rename_i h1
      rw [h1]
      rfl
    · split
      · rename_i h1
        rw [h1]
        rfl
      · rename_i h1 h2
        have : a.k = 0:=by
          rcases hr with hr | hr | hr
          · exact hr.1
          · exact absurd hr.1 h1
          · exact absurd hr.1 h2
        rw [this]
        rfl
  have h1:=first h r
  rw [he,first h' r',Option.some.injEq] at h1
  exact key h h' h1.symm r r' he
theorem zCK : ∀ {a b : List CM} {r s : List Int},(∀ m ∈ a,m.Good) → (∀ m ∈ b,m.Good) → encs a ++ r = encs b ++ s → (∃ d,b = a ++ d ∧ r = encs d ++ s) ∨ (∃ d,a = b ++ d ∧ s = encs d ++ r)
 | [],b,r,s,_,_,h=>.inl ⟨b,rfl,h⟩
 | m :: a,[],r,s,_,_,h=>.inr ⟨m :: a,rfl,h.symm⟩
 | m :: a,m' :: b,r,s,ha,hb,h=>by
  rw [encs,encs,List.append_assoc,List.append_assoc] at h
  obtain ⟨rfl,h2⟩:=zIg (ha m List.mem_cons_self) (hb m' List.mem_cons_self) h
  rcases zCK (fun x hx=>ha x (List.mem_cons_of_mem _ hx)) (fun x hx=>hb x (List.mem_cons_of_mem _ hx)) h2 with ⟨d,rfl,e⟩ | ⟨d,rfl,e⟩
  ·exact .inl ⟨d,rfl,e⟩
  ·exact .inr ⟨d,rfl,e⟩
theorem zEv {a b : List CM} (ha : ∀ m ∈ a,m.Good) (hb : ∀ m ∈ b,m.Good) (h : encs a = encs b) : a = b:=by
 have h' : encs a ++ [] = encs b ++ []:=by rw [h]
 rcases zCK ha hb h' with ⟨d,rfl,e⟩ | ⟨d,rfl,e⟩
 all_goals
  rw [List.append_nil] at e
  have hd:=zDS d
  rw [← e,List.length_nil] at hd
  have : d = []:=List.eq_nil_of_length_eq_zero (by omega)
  rw [this,List.append_nil]
inductive DecIs (l : List Int) : List CM → Int → Int → Prop
 | ok (ms : List CM) (hr : ∀ m ∈ ms,m.Good) (hn : ms.length ≤ 65536) (h : l = encs ms) : DecIs l ms l.length 0
 | form (ms : List CM) (r : List Int) (hr : ∀ m ∈ ms,m.Good) (hn : ms.length ≤ 65536) (h : l = encs ms ++ r) (h0 : r ≠ []) (hno : ∀ (m : CM) (r' : List Int),m.Good → r ≠ m.enc ++ r') : DecIs l [] (encs ms).length 3
 | many (ms : List CM) (m : CM) (r : List Int) (hr : ∀ m ∈ ms,m.Good) (hn : ms.length = 65536) (h : l = encs ms ++ (m.enc ++ r)) (hm : m.Good) : DecIs l [] (encs ms).length 7
theorem DecIs.of {a b : List CM} {n e : Int} (ha : ∀ m ∈ a,m.Good) (hn : a.length ≤ 65536) (h : DecIs (encs a) b n e) : b = a ∧ n = ((encs a).length : Int) ∧ e = 0:=by
 cases h with
 | ok _ hr hm h=>exact ⟨zEv hr ha h.symm,rfl,rfl⟩
 | form ms r hr hm h h0 hno =>
  have h' : encs a ++ [] = encs ms ++ r:=by rw [List.append_nil]; exact h
  rcases zCK ha hr h' with ⟨d,rfl,e⟩ | ⟨d,rfl,e⟩
  ·have:=congrArg List.length e
   rw [List.length_nil,List.length_append] at this
   exact absurd (List.eq_nil_of_length_eq_zero (by omega)) h0
  ·rw [List.append_nil] at e
   cases d with
   | nil=>exact absurd e h0
   | cons m d=>exact absurd e (hno m _ (ha m (List.mem_append_right _ List.mem_cons_self)))
 | many ms m r hr hm h hg =>
  have h' : encs a ++ [] = encs ms ++ (m.enc ++ r):=by rw [List.append_nil]; exact h
  have hl:=zEA m
  rcases zCK ha hr h' with ⟨d,rfl,e⟩ | ⟨d,rfl,e⟩
  ·have:=congrArg List.length e
   rw [List.length_nil,List.length_append,List.length_append] at this
   omega
  ·rw [List.append_nil] at e
   rw [List.length_append] at hn
   have : d = []:=List.eq_nil_of_length_eq_zero (by omega)
   subst this
   have:=congrArg List.length e
   rw [show encs [] = [] from rfl,List.length_nil,List.length_append] at this
   omega
end
section
open Go.RowKit
section
abbrev cf (t s so d : Int) : Value:=.agg #[.int .i64 t,.int .i64 s,.int .i64 so,.int .i64 d]
def rightC (t s so d : Int) : Bool:=decide (1 ≤ t ∧ t ≤ 64 ∧ 1 ≤ s ∧ s ≤ 64 ∧ 0 ≤ so ∧ so ≤ 4 ∧ 0 ≤ d ∧ d ≤ 100)
structure Lay (t s n : Int) : Prop where
 eq : t * s = n
 t1 : 1 ≤ t
 t2 : t ≤ 64
 s1 : 1 ≤ s
 s2 : s ≤ 64
 n1 : t ≤ n
 n2 : n ≤ 4096
 n3 : s ≤ n
theorem Lay.mk' {t s : Int} (t1 : 1 ≤ t) (t2 : t ≤ 64) (s1 : 1 ≤ s) (s2 : s ≤ 64) : Lay t s (t * s) :=
 ⟨rfl,t1,t2,s1,s2,by have:=Int.mul_le_mul_of_nonneg_left s1 (by omega : 0 ≤ t); omega,by have:=Int.mul_le_mul t2 s2 (by omega) (by omega); omega,by have:=Int.mul_le_mul_of_nonneg_right t1 (by omega : 0 ≤ s); omega⟩
theorem Lay.wrap {t s n : Int} (h : Lay t s n) : wrap64 (t * s) = n:=by
 rw [h.eq]
 have:=h.n1; have:=h.n2; have:=h.t1
 unfold wrap64
 omega
theorem zCv (t s so d : Int) (w : World) :
  Calls Tryz.prog 30 #[cf t s so d] w fun r w'=>r = .returned (.bool (rightC t s so d)) ∧ Below w.heap.size w w':=by
 go_enter Tryz.func30,Tryz.ntmps30
 go_wp2
 all_goals
  go_ret
  refine ⟨?_,zAA (Below.refl _ _) _⟩
  first
   | (rw [show rightC t s so d = false from decide_eq_false (by omega)]; rfl)
   | (rw [show rightC t s so d = decide (d ≤ 100) from decide_eq_decide.2 (by omega)]; rfl)
theorem zBG {a b : Int} (h : a = b) : Ending.returned (.int .i64 a) = .returned (.int .i64 b):=by rw [h]
theorem zBX (t s so d n : Int) (w : World) (h : Lay t s n) :
  Calls Tryz.prog 46 #[cf t s so d] w fun r w'=>r = .returned (i64 n) ∧ Below w.heap.size w w':=by
 have hw:=h.wrap
 have Hw:=zIo hw
 clear hw
 go_enter Tryz.func46,Tryz.ntmps46
 go_wp2
 go_ret
 exact ⟨zBG Hw.out,zAA (Below.refl _ _) _⟩
theorem zBx (t s so d n i m : Int) (w : World) (h : Lay t s n) (i0 : 0 ≤ i) (i1 : i < t) (him : i * s = m) (m0 : 0 ≤ m) (m1 : m ≤ n) :
  Calls Tryz.prog 60 #[cf t s so d,i64 i] w fun r w'=>r = .returned (i64 m) ∧ Below w.heap.size w w':=by
 have hw : wrap64 (i * s) = m:=by have:=h.n2; rw [him]; unfold wrap64; omega
 have Hw:=zIo hw
 clear hw him
 go_enter Tryz.func60,Tryz.ntmps60
 go_wp2
 go_ret
 exact ⟨zBG Hw.out,zAA (Below.refl _ _) _⟩
theorem zAZ (t s so d i : Int) (w : World) :
  Calls Tryz.prog 70 #[cf t s so d,i64 i] w fun r w'=>r = .returned (i64 i) ∧ Below w.heap.size w w':=by
 go_enter Tryz.func70,Tryz.ntmps70
 go_wp2
 go_ret
 first | exact ⟨rfl,zAA (Below.refl _ _) _⟩ | exact ⟨rfl,Below.refl _ _⟩
theorem zCy (t s so d n i : Int) (w : World) (h : Lay t s n) (i0 : 0 ≤ i) (i1 : i ≤ n) :
  Calls Tryz.prog 65 #[cf t s so d,i64 i] w fun r w'=>r = .returned (i64 (n + i)) ∧ Below w.heap.size w w':=by
 have hn1:=h.n1; have hn2:=h.n2; have ht1:=h.t1
 go_enter Tryz.func65,Tryz.ntmps65
 have hB:=Below.refl (w.alloc (.cells #[.int .i64 t,.int .i64 s,.int .i64 so,.int .i64 d] 26)).heap.size (w.alloc (.cells #[.int .i64 t,.int .i64 s,.int .i64 so,.int .i64 d] 26))
 go_wp2_with (first | (go_at_call 46; refine (zBX _ _ _ _ n _ h).mono ?_; rintro e w' ⟨rfl,hb'⟩; (first | replace hB:=zAE hB hb' | replace hB:=zAE (zAA hB _) hb'); clear hb'; (try clear hk); have hk:=zAM hB))
 go_ret
 exact ⟨rfl,zAE (zAA (Below.refl _ _) _) hB⟩
theorem zCO (t s so d n i : Int) (w : World) (h : Lay t s n) (i0 : 0 ≤ i) (i1 : i ≤ t) :
  Calls Tryz.prog 94 #[cf t s so d,i64 i] w fun r w'=>r = .returned (i64 (2 * n + i)) ∧ Below w.heap.size w w':=by
 have hn1:=h.n1; have hn2:=h.n2; have ht1:=h.t1; have ht2:=h.t2
 go_enter Tryz.func94,Tryz.ntmps94
 have hB:=Below.refl (w.alloc (.cells #[.int .i64 t,.int .i64 s,.int .i64 so,.int .i64 d] 26)).heap.size (w.alloc (.cells #[.int .i64 t,.int .i64 s,.int .i64 so,.int .i64 d] 26))
 go_wp2_with (first | (go_at_call 46; refine (zBX _ _ _ _ n _ h).mono ?_; rintro e w' ⟨rfl,hb'⟩; (first | replace hB:=zAE hB hb' | replace hB:=zAE (zAA hB _) hb'); clear hb'; (try clear hk); have hk:=zAM hB))
 go_ret
 exact ⟨rfl,zAE (zAA (Below.refl _ _) _) hB⟩
theorem zCe (t s so d n i : Int) (w : World) (h : Lay t s n) (i0 : 0 ≤ i) (i1 : i ≤ t) :
  Calls Tryz.prog 97 #[cf t s so d,i64 i] w fun r w'=>r = .returned (i64 (2 * n + t + i)) ∧ Below w.heap.size w w':=by
 have hn1:=h.n1; have hn2:=h.n2; have ht1:=h.t1; have ht2:=h.t2
 go_enter Tryz.func97,Tryz.ntmps97
 go_wp2_with fail
 refine zAN ((0,true) :: (3,true) :: (4,true) :: (6,true) :: (1,false) :: (2,true) :: (5,true) :: (7,true) :: (8,true) :: []) (by kernel_rfl) (by kernel_rfl) (by kernel_rfl) (by decide) (fun _ _ _ _ _ h=>h) (fun hHeld=>?_)
 repeat (first
  | (refine zAC (v := ?_) rfl ?_ ?_ ?_; rotate_left 1; rfl; (focus (intro wS hSw; have hk:=zAM hSw; go_simp; first | done | with_reducible rfl)); (try simp only [Act.put,qset]))
  | (refine zAB rfl ?_ ?_; rfl; (try simp only [Act.put,qset]))
  | (refine zAH rfl (fun K hK=>?_); go_simp; (try (first | (go_at_call 46; refine (zBX _ _ _ _ n _ h).mono ?_; rintro e w' ⟨rfl,hb'⟩))); (try go_wp2_with fail); refine hK.out _ _ ?_ ?_; (focus (first | exact zAE hHeld hb' | exact zAA hHeld _ | exact hHeld)); (try clear hb'); clear hHeld hK K; intro hHeld; (try simp only [Act.put,qset])))
 first | refine zAJ ?_ | skip
 go_wp2
 go_ret
 exact ⟨zBG (by rw [IntWalk.i64_in (2 * n) (by omega),IntWalk.i64_in (2 * n + t) (by omega),IntWalk.i64_in (2 * n + t + i) (by omega)]),zAE (zAA (Below.refl _ _) _) hHeld⟩
theorem zC8 (t s so d n : Int) (w : World) (h : Lay t s n) :
  Calls Tryz.prog 36 #[cf t s so d] w fun r w'=>r = .returned (i64 (2 * n + 2 * t)) ∧ Below w.heap.size w w':=by
 have hn1:=h.n1; have hn2:=h.n2; have ht1:=h.t1; have ht2:=h.t2
 go_enter Tryz.func36,Tryz.ntmps36
 go_wp2_with fail
 refine zAN ((0,true) :: (3,true) :: (4,true) :: (5,true) :: (1,false) :: (2,true) :: (6,true) :: (7,true) :: []) (by kernel_rfl) (by kernel_rfl) (by kernel_rfl) (by decide) (fun _ _ _ _ _ h=>h) (fun hHeld=>?_)
 repeat (first
  | (refine zAC (v := ?_) rfl ?_ ?_ ?_; rotate_left 1; rfl; (focus (intro wS hSw; have hk:=zAM hSw; go_simp; first | done | with_reducible rfl)); (try simp only [Act.put,qset]))
  | (refine zAB rfl ?_ ?_; rfl; (try simp only [Act.put,qset]))
  | (refine zAH rfl (fun K hK=>?_); go_simp; (try (first | (go_at_call 46; refine (zBX _ _ _ _ n _ h).mono ?_; rintro e w' ⟨rfl,hb'⟩))); (try go_wp2_with fail); refine hK.out _ _ ?_ ?_; (focus (first | exact zAE hHeld hb' | exact zAA hHeld _ | exact hHeld)); (try clear hb'); clear hHeld hK K; intro hHeld; (try simp only [Act.put,qset])))
 first | refine zAJ ?_ | skip
 go_wp2
 go_ret
 exact ⟨zBG (by rw [IntWalk.i64_in (2 * n) (by omega),IntWalk.i64_in (2 * t) (by omega),IntWalk.i64_in (2 * n + 2 * t) (by omega)]),zAE (zAA (Below.refl _ _) _) hHeld⟩
end
section
def rightB (a b : Int) : Bool:=decide (0 ≤ a ∧ a ≤ b ∧ b < 16777215)
theorem zDv (a b : Int) (w : World) :
  Calls Tryz.prog 109 #[st a b] w fun e w'=>e = .returned (.bool (rightB a b)) ∧ Below w.heap.size w w':=by
 by_cases h1 : 0 ≤ a
 ·by_cases h2 : a ≤ b
  ·by_cases h3 : b < 16777215
   ·have hr : rightB a b = true:=by simp [rightB,h1,h2,h3]
    have Hr:=zIo hr; clear hr
    go_enter Tryz.func109,Tryz.ntmps109
    go_wp2
    go_ret
    exact ⟨by rw [Hr.out]; rfl,(Below.refl _ _).alloc (Nat.le_refl _) _⟩
   ·have hr : rightB a b = false:=by simp [rightB,h3]
    have Hr:=zIo hr; clear hr
    go_enter Tryz.func109,Tryz.ntmps109
    go_wp2
    go_ret
    exact ⟨by rw [Hr.out]; rfl,(Below.refl _ _).alloc (Nat.le_refl _) _⟩
  ·have hr : rightB a b = false:=by simp [rightB,h2]
   have Hr:=zIo hr; clear hr
   go_enter Tryz.func109,Tryz.ntmps109
   go_wp2
   go_ret
   exact ⟨by rw [Hr.out]; rfl,(Below.refl _ _).alloc (Nat.le_refl _) _⟩
 ·have hr : rightB a b = false:=by simp [rightB,h1]
  have Hr:=zIo hr; clear hr
  go_enter Tryz.func109,Tryz.ntmps109
  go_wp2
  go_ret
  exact ⟨by rw [Hr.out]; rfl,(Below.refl _ _).alloc (Nat.le_refl _) _⟩
def cmpI (a b : Int) : Int:=if a < b then -1 else if b < a then 1 else 0
theorem zCq (a b : Int) (w : World) :
  Calls Tryz.prog 113 #[i64 a,i64 b] w fun e w'=>e = .returned (i64 (cmpI a b)) ∧ w = w':=by
 by_cases h1 : a < b
 ·have hr : cmpI a b = -1:=by simp [cmpI,h1]
  have Hr:=zIo hr; clear hr
  go_enter Tryz.func113,Tryz.ntmps113
  go_wp2
  go_ret
  exact ⟨by rw [Hr.out]; rfl,rfl⟩
 ·by_cases h2 : b < a
  ·have hr : cmpI a b = 1:=by simp [cmpI,h1,h2]
   have Hr:=zIo hr; clear hr
   go_enter Tryz.func113,Tryz.ntmps113
   go_wp2
   go_ret
   exact ⟨by rw [Hr.out]; rfl,rfl⟩
  ·have hr : cmpI a b = 0:=by simp [cmpI,h1,h2]
   have Hr:=zIo hr; clear hr
   go_enter Tryz.func113,Tryz.ntmps113
   go_wp2
   go_ret
   exact ⟨by rw [Hr.out]; rfl,rfl⟩
def orI (x y : Int) : Int:=if x = 0 then y else x
def cmpS (a b c d : Int) : Int:=orI (cmpI a c) (cmpI b d)
end
section
end
section
theorem zEX (a b p : Int) (k : Nat) (hp : p = ((2 ^ k : Nat) : Int)) (h0 : 0 ≤ a) (h1 : a < p) (hb : 0 ≤ b) (hlt : b * p < 18446744073709551616) (hp2 : p < 18446744073709551616) : bits .or .u64 a (b * p) = a + b * p:=by
 obtain ⟨n,rfl⟩:=Int.eq_ofNat_of_zero_le h0
 obtain ⟨m,rfl⟩:=Int.eq_ofNat_of_zero_le hb
 subst hp
 rw [← Int.natCast_mul] at hlt ⊢
 rw [u64_or_nat n (m * 2 ^ k) (by omega) (by omega)]
 have h2 : n < 2 ^ k:=by omega
 have h3:=Nat.two_pow_add_eq_or_of_lt h2 m
 rw [Nat.mul_comm m,Nat.or_comm, ← h3]
 omega
theorem zA6 (a m p : Int) (k : Nat) (hp : p = ((2 ^ k : Nat) : Int)) (hm : m = p - 1) (h0 : 0 ≤ a) (h1 : a < 18446744073709551616) (hp2 : p < 18446744073709551616) : bits .and .u64 a m = a % p:=by
 obtain ⟨n,rfl⟩:=Int.eq_ofNat_of_zero_le h0
 subst hm hp
 have hpos : 0 < 2 ^ k:=Nat.two_pow_pos k
 rw [show ((2 ^ k : Nat) : Int) - 1 = ((2 ^ k - 1 : Nat) : Int) by omega,u64_and_nat n (2 ^ k - 1) (by omega) (by omega),Nat.and_two_pow_sub_one_eq_mod]
 rfl
theorem zEQ {P : Program} {f : FuncId} {args : Array Value} {w : World} {v : Value} (h : Calls P f args w fun r w'=>r = .returned v ∧ w = w') : Calls P f args w fun r w'=>r = .returned v ∧ Below w.heap.size w w' :=
 h.mono fun _ _ ⟨he,hw⟩=>⟨he,by subst hw; exact Below.refl _ _⟩
abbrev wd (s e g lo hi : Int) : Value:=.agg #[.int .i64 s,.int .i64 e,.int .i64 g,.int .i64 lo,.int .i64 hi]
def rightW (s e g lo hi : Int) : Bool:=decide (0 ≤ s ∧ s ≤ 2 ∧ 0 ≤ e ∧ e ≤ 1 ∧ 0 ≤ g ∧ g ≤ 8191 ∧ 0 ≤ lo ∧ lo ≤ 16777215 ∧ 0 ≤ hi ∧ hi ≤ 16777215)
theorem zFe (s e g lo hi : Int) (w : World) :
  Calls Tryz.prog 85 #[wd s e g lo hi] w fun r w'=>r = .returned (.bool (rightW s e g lo hi)) ∧ Below w.heap.size w w':=by
 go_enter Tryz.func85,Tryz.ntmps85
 go_wp2
 all_goals
  go_ret
  refine ⟨?_,zAA (Below.refl _ _) _⟩
  first
   | (rw [show rightW s e g lo hi = false from decide_eq_false (by omega)]; rfl)
   | (rw [show rightW s e g lo hi = decide (hi ≤ 16777215) from decide_eq_decide.2 (by omega)]; rfl)
theorem zB2 (s e g lo hi : Int) (w : World) (h : 0 ≤ s ∧ s ≤ 2 ∧ 0 ≤ e ∧ e ≤ 1 ∧ 0 ≤ g ∧ g ≤ 8191 ∧ 0 ≤ lo ∧ lo ≤ 16777215 ∧ 0 ≤ hi ∧ hi ≤ 16777215) :
  Calls Tryz.prog 71 #[wd s e g lo hi] w fun r w'=>r = .returned (u64 (s + 4 * e + 8 * g + 65536 * lo + 1099511627776 * hi)) ∧ Below w.heap.size w w':=by
 have hr : rightW s e g lo hi = true:=decide_eq_true h
 obtain ⟨h1,h2,h3,h4,h5,h6,h7,h8,h9,h10⟩:=h
 have q0 : (w.alloc (.cells #[.int .i64 s,.int .i64 e,.int .i64 g,.int .i64 lo,.int .i64 hi] 140)).cell? ⟨w.heap.size,0,none⟩ = some (i64 s):=by go_simp
 have q1 : (w.alloc (.cells #[.int .i64 s,.int .i64 e,.int .i64 g,.int .i64 lo,.int .i64 hi] 140)).cell? ⟨w.heap.size,1,none⟩ = some (i64 e):=by go_simp
 have q2 : (w.alloc (.cells #[.int .i64 s,.int .i64 e,.int .i64 g,.int .i64 lo,.int .i64 hi] 140)).cell? ⟨w.heap.size,2,none⟩ = some (i64 g):=by go_simp
 have q3 : (w.alloc (.cells #[.int .i64 s,.int .i64 e,.int .i64 g,.int .i64 lo,.int .i64 hi] 140)).cell? ⟨w.heap.size,3,none⟩ = some (i64 lo):=by go_simp
 have q4 : (w.alloc (.cells #[.int .i64 s,.int .i64 e,.int .i64 g,.int .i64 lo,.int .i64 hi] 140)).cell? ⟨w.heap.size,4,none⟩ = some (i64 hi):=by go_simp
 go_enter Tryz.func71,Tryz.ntmps71
 go_wp2_with fail
 refine (zFe _ _ _ _ _ _).mono ?_
 rintro r w1 ⟨rfl,hb1⟩
 replace q0:=cell_later hb1 q0
 replace q1:=cell_later hb1 q1
 replace q2:=cell_later hb1 q2
 replace q3:=cell_later hb1 q3
 replace q4:=cell_later hb1 q4
 go_wp2_with fail
 go_ret
 have hp : bits BinOp.or IntKind.u64 (bits BinOp.or IntKind.u64 (bits BinOp.or IntKind.u64 (bits BinOp.or IntKind.u64 s (e * 4)) (g * 8)) (lo * 65536)) (hi * 1099511627776) = s + 4 * e + 8 * g + 65536 * lo + 1099511627776 * hi:=by
  rw [zEX s e 4 2 rfl (by omega) (by omega) (by omega) (by omega) (by omega),zEX _ g 8 3 rfl (by omega) (by omega) (by omega) (by omega) (by omega),zEX _ lo 65536 16 rfl (by omega) (by omega) (by omega) (by omega) (by omega),zEX _ hi 1099511627776 40 rfl (by omega) (by omega) (by omega) (by omega) (by omega)]
  omega
 rw [← hp]
 exact ⟨rfl,zAE (zAA (Below.refl _ _) _) hb1⟩
theorem zAn (x : Int) (w : World) (h0 : 0 ≤ x) (h1 : x ≤ 18446744073709551615) :
  Calls Tryz.prog 91 #[u64 x] w fun r w'=>r = .returned (wd (x % 4) (x / 4 % 2) (x / 8 % 8192) (x / 65536 % 16777216) (x / 1099511627776)) ∧ Below w.heap.size w w':=by
 have c1 : wrap64 (bits BinOp.and IntKind.u64 x 3) = x % 4:=by rw [zA6 x 3 4 2 rfl rfl (by omega) (by omega) (by omega)]; unfold wrap64; omega
 have c2 : wrap64 (bits BinOp.and IntKind.u64 (x / 4) 1) = x / 4 % 2:=by rw [zA6 _ 1 2 1 rfl rfl (by omega) (by omega) (by omega)]; unfold wrap64; omega
 have c3 : wrap64 (bits BinOp.and IntKind.u64 (x / 8) 8191) = x / 8 % 8192:=by rw [zA6 _ 8191 8192 13 rfl rfl (by omega) (by omega) (by omega)]; unfold wrap64; omega
 have c4 : wrap64 (bits BinOp.and IntKind.u64 (x / 65536) 16777215) = x / 65536 % 16777216:=by rw [zA6 _ 16777215 16777216 24 rfl rfl (by omega) (by omega) (by omega)]; unfold wrap64; omega
 have c5 : wrap64 (bits BinOp.and IntKind.u64 (x / 1099511627776) 16777215) = x / 1099511627776:=by rw [zA6 _ 16777215 16777216 24 rfl rfl (by omega) (by omega) (by omega)]; unfold wrap64; omega
 rw [← c1, ← c2, ← c3, ← c4]
 rw [← c5]
 clear c1 c2 c3 c4 c5
 go_enter Tryz.func91,Tryz.ntmps91
 go_wp2_with fail
 refine bodyPost_ret (v:=wd (wrap64 (bits BinOp.and IntKind.u64 x 3)) (wrap64 (bits BinOp.and IntKind.u64 (x / 4) 1)) (wrap64 (bits BinOp.and IntKind.u64 (x / 8) 8191)) (wrap64 (bits BinOp.and IntKind.u64 (x / 65536) 16777215)) (wrap64 (bits BinOp.and IntKind.u64 (x / 1099511627776) 16777215))) (by simp [results,Tryz.results91,go_sem]) rfl ⟨rfl,zAA (Below.refl _ _) _⟩
end
section
theorem zD1 (s e g lo hi : Int) (w : World) :
  Calls Tryz.prog 107 #[wd s e g lo hi] w fun r w'=>r = .returned (wd 2 e g lo hi) ∧ Below w.heap.size w w':=by
 go_enter Tryz.func107,Tryz.ntmps107
 go_wp2_with fail
 refine bodyPost_ret (v:=wd 2 e g lo hi) (by simp [results,Tryz.results107,go_sem]) rfl ⟨rfl,zAA (zAA (Below.refl _ _) _) _⟩
theorem zHI (s e g lo hi e' lo' hi' : Int) (w : World) :
  Calls Tryz.prog 68 #[wd s e g lo hi,i64 e',st lo' hi'] w fun r w'=>r = .returned (wd 1 e' (wrap64 (g + 1)) lo' hi') ∧ Below w.heap.size w w':=by
 go_enter Tryz.func68,Tryz.ntmps68
 go_wp2_with fail
 refine bodyPost_ret (v:=wd 1 e' (wrap64 (g + 1)) lo' hi') (by simp [results,Tryz.results68,go_sem]) rfl ⟨rfl,zAA (zAA (zAA (Below.refl _ _) _) _) _⟩
end
section
structure Ev where
 who : Int
 op : Int
 cell : Int
 old : Int
 new : Int
 ok : Bool
def Ev.cells (e : Ev) : List Value:=[i64 e.who,i64 e.op,i64 e.cell,u64 e.old,u64 e.new,.bool e.ok]
def flatE : List Ev → List Value
 | []=>[]
 | e :: l=>e.cells ++ flatE l
theorem zCF : ∀ a b : List Ev,flatE (a ++ b) = flatE a ++ flatE b
 | [],_=>rfl
 | e :: a,b=>by simp [flatE,zCF a b]
theorem zDz : ∀ (l : List Ev) (u : Value),u ∈ flatE l → u.oneCell' = true
 | [],_,h=>by cases h
 | e :: l,u,h=>by
  simp only [flatE,List.mem_append,Ev.cells,List.mem_cons,List.not_mem_nil,or_false] at h
  rcases h with (rfl | rfl | rfl | rfl | rfl | rfl) | h
  ·rfl
  ·rfl
  ·rfl
  ·rfl
  ·rfl
  ·rfl
  ·exact zDz l u h
theorem zIY : ElemAt Tryz.prog 111 169 (.agg #[.int .i64 0,.int .i64 0,.int .i64 0,.int .u64 0,.int .u64 0,.bool false]) 6 48 :=
 ElemAt.mk' Tryz.underlying111 (by kernel_rfl) rfl (by decide)
structure IsMem (base : Nat) (w : World) (p c : Nat) (v : Value) (C : List Int) (L : List Ev) : Prop where
 c0 : w.cell? ⟨p,0,none⟩ = some (.slice (some ⟨c,0,none⟩) C.length C.length)
 c1 : w.cell? ⟨p,1,none⟩ = some v
 fz : ∀ o,w.frozen? ⟨p,o,none⟩ = false
 row : w.ownsRow base 41 1 (.slice (some ⟨c,0,none⟩) C.length C.length) C.length (C.map u64)
 log : w.ownsRow base 169 6 v L.length (flatE L)
 pc : p ≠ c
 vp : v.ownBlock ≠ some p
 vc : v.ownBlock ≠ some c
 pb : base ≤ p
 ps : p < w.heap.size
 num : ∀ x ∈ C,0 ≤ x ∧ x ≤ 18446744073709551615
def Foot (p c : Nat) (v : Value) (k : Nat) : Prop:=k = p ∨ k = c ∨ v.ownBlock = some k
theorem IsMem.cb {base : Nat} {w : World} {p c : Nat} {v : Value} {C : List Int} {L : List Ev} (h : IsMem base w p c v C L) : base ≤ c ∧ c < w.heap.size:=h.row.lt c rfl
theorem IsMem.foot {base : Nat} {w : World} {p c : Nat} {v : Value} {C : List Int} {L : List Ev} (h : IsMem base w p c v C L) : ∀ k,Foot p c v k → base ≤ k ∧ k < w.heap.size:=by
 rintro k (rfl | rfl | hk)
 ·exact ⟨h.pb,h.ps⟩
 ·exact h.cb
 ·exact h.log.lt k hk
theorem IsMem.keep {base : Nat} {w w' : World} {p c : Nat} {v : Value} {C : List Int} {L : List Ev} {T : Nat → Prop} (h : IsMem base w p c v C L) (k : Keep T w w') (hT : ∀ i,Foot p c v i → ¬ T i) : IsMem base w' p c v C L :=
 ⟨k.cell h.c0 (hT _ (.inl rfl)),k.cell h.c1 (hT _ (.inl rfl)),fun o=>(k.frozen (a:=⟨p,o,none⟩) h.ps (hT _ (.inl rfl))).trans (h.fz o),
  k.row h.row (fun i hi=>hT i (.inr (.inl (by cases hi; rfl)))),k.row h.log (fun i hi=>hT i (.inr (.inr hi))),h.pc,h.vp,h.vc,h.pb,Nat.lt_of_lt_of_le h.ps k.size,h.num⟩
theorem IsMem.later {base : Nat} {w w' : World} {p c : Nat} {v : Value} {C : List Int} {L : List Ev} (h : IsMem base w p c v C L) (k : Below w.heap.size w w') : IsMem base w' p c v C L :=
 h.keep (T:=fun _=>False) (Keep.of_below k) (fun _ _ h=>h)
theorem IsMem.at' {base : Nat} {w : World} {p c : Nat} {v : Value} {C : List Int} {L : List Ev} (h : IsMem base w p c v C L) {i : Nat} {x : Int} (hx : C[i]? = some x) : w.cell? ⟨c,i,none⟩ = some (u64 x):=by
 have hi:=(List.getElem?_eq_some_iff.1 hx).1
 rw [h.row.cellAt i (by omega),List.getElem?_map,hx]
 rfl
theorem IsMem.numAt {base : Nat} {w : World} {p c : Nat} {v : Value} {C : List Int} {L : List Ev} (h : IsMem base w p c v C L) {i : Nat} {x : Int} (hx : C[i]? = some x) : 0 ≤ x ∧ x ≤ 18446744073709551615 :=
 h.num x (List.mem_of_getElem? hx)
structure Touched (base : Nat) (w w' : World) (p c : Nat) (v v' : Value) (C' : List Int) (L' : List Ev) : Prop where
 mem : IsMem base w' p c v' C' L'
 keep : Keep (Foot p c v) w w'
 moved : Moved w v v'
def MemPost (base : Nat) (w : World) (p c : Nat) (v : Value) (C' : List Int) (L' : List Ev) (e0 : Ending) (e : Ending) (w' : World) : Prop :=
 e = e0 ∧ ∃ v',Touched base w w' p c v v' C' L'
theorem zIL (w : World) (e : Ev) : Src (w.alloc (.cells #[i64 e.who,i64 e.op,i64 e.cell,u64 e.old,u64 e.new,.bool e.ok] 169)) 6 (some ⟨w.heap.size,0,none⟩) 1 e.cells :=
 ⟨(fun h=>by cases h),rfl,fun ad had j u hj=>by
  cases had
  rw [zBK,Nat.zero_add]
  have : (w.alloc (.cells #[i64 e.who,i64 e.op,i64 e.cell,u64 e.old,u64 e.new,.bool e.ok] 169)).cell? ⟨w.heap.size,j,none⟩ = #[i64 e.who,i64 e.op,i64 e.cell,u64 e.old,u64 e.new,.bool e.ok][j]?:=World.cell?_alloc_new w _ _ j
  rw [this, ← Array.getElem?_toList]
  exact hj,fun u hu=>zDz [e] u (by simpa [flatE] using hu)⟩
theorem zHZ (w W : World) (e : Ev) (h : W.heap = (w.alloc (.cells #[i64 e.who,i64 e.op,i64 e.cell,u64 e.old,u64 e.new,.bool e.ok] 169)).heap) : Src W 6 (some ⟨w.heap.size,0,none⟩) 1 e.cells :=
 have k:=zIL w e
 ⟨k.nil,k.len,fun ad had j u hj=>(World.cell?_of_block (w:=w.alloc _) (by rw [h])).trans (k.at' ad had j u hj),k.one⟩
theorem zBE {w : World} {base : Nat} {e : TypeId} {sz : Nat} {v : Value} {n : Nat} {xs : List Value} (h : w.ownsRow base e sz v n xs) (p : Addr) (hp : v.ownBlock ≠ some p.block) (u : Value) : (w.setCell p u).ownsRow base e sz v n xs:=by
 refine ⟨h.1, ?_⟩
 rcases h.2 with h1 | ⟨g,cap,cur,rfl,hg,hh,h3⟩
 ·exact .inl h1
 ·exact .inr ⟨g,cap,cur,rfl,hg,by rw [Below.heap_setCell _ _ _ _ (fun e=>hp (by simp [Value.ownBlock,e]))]; exact hh,h3⟩
theorem zEy {base : Nat} {w W w1 : World} {p c : Nat} {v v' : Value} {C : List Int} {L : List Ev} {n i : Nat} {x : Int} {xs : List Value} (hM : IsMem base w p c v C L) (hx : C[i]? = some x) (hW : Below w.heap.size w W)
  (hG : Grew W w1 base 169 6 v v' n xs) : w1.cell? ⟨p,0,none⟩ = some (.slice (some ⟨c,0,none⟩) C.length C.length) ∧ w1.cell? ⟨p,1,none⟩ = some v ∧ w1.cell? ⟨c,i,none⟩ = some (u64 x) ∧
   w1.frozen? ⟨p,0,none⟩ = false ∧ w1.frozen? ⟨p,1,none⟩ = false ∧ w1.frozen? ⟨c,i,none⟩ = false:=by
 have hM':=hM.later hW
 have kr:=hM'.row.kept hG.grown (.inr (fun h=>hM.vc h.symm))
 have hb:=hG.grown.block p hM'.ps (fun h=>hM.vp h.symm)
 exact ⟨hG.grown.cell hM'.c0 (fun h=>hM.vp h.symm),hG.grown.cell hM'.c1 (fun h=>hM.vp h.symm),hG.grown.cell (hM'.at' hx) (fun h=>hM.vc h.symm),(World.frozen?_of_block (a:=⟨p,0,none⟩) hb).trans (hM'.fz 0),(World.frozen?_of_block (a:=⟨p,1,none⟩) hb).trans (hM'.fz 1),kr.frozenAt i⟩
theorem zGK {base : Nat} {w W w1 : World} {p c : Nat} {v v' : Value} {C : List Int} {L : List Ev} {i : Nat} {e : Ev} {next : Int} (hM : IsMem base w p c v C L) (hi : i < C.length) (hW : Below w.heap.size w W)
  (hG : Grew W w1 base 169 6 v v' (L.length + 1) (flatE L ++ e.cells)) (h0 : 0 ≤ next) (h1 : next ≤ 18446744073709551615) :
  Touched base w ((w1.setCell ⟨p,1,none⟩ v').setCell ⟨c,i,none⟩ (u64 next)) p c v v' (C.set i next) (L ++ [e]):=by
 have hM':=hM.later hW
 have hp:=hM.ps
 have hcb:=hM.cb
 have hpW:=hW.size
 have hown : v'.ownBlock ≠ some p ∧ v'.ownBlock ≠ some c:=by
  constructor
  all_goals
   intro hk
   rcases hG.moved _ hk with h | h
   ·first | exact hM.vp h | exact hM.vc h
   ·omega
 have k0 : w1.cell? ⟨p,0,none⟩ = _:=hG.grown.cell hM'.c0 (fun h=>hM.vp h.symm)
 have k1 : w1.cell? ⟨p,1,none⟩ = some v:=hG.grown.cell hM'.c1 (fun h=>hM.vp h.symm)
 have kr:=hM'.row.kept hG.grown (.inr (fun h=>hM.vc h.symm))
 have kp:=hM.pc
 have hK1 : Keep (Foot p c v) w w1:=(Keep.of_below hW).trans (Keep.of_grown hG.grown (fun k hk=>.inr (.inr hk)))
 refine ⟨⟨?_, ?_, ?_, ?_, ?_,kp,hown.1,hown.2,hM.pb, ?_, ?_⟩, ?_,fun k hk=>(hG.moved k hk).imp id (fun h=>by omega)⟩
 ·rw [List.length_set,World.cell?_setCell_other _ _ _ _ (by simp),World.cell?_setCell_other _ _ _ _ (by simp)]
  exact k0
 ·rw [World.cell?_setCell_other _ _ _ _ (by simp)]
  exact World.cell?_setCell_same _ _ _ k1
 ·intro o
  rw [World.frozen?_setCell,World.frozen?_setCell]
  exact (World.frozen?_of_block (a:=⟨p,o,none⟩) (hG.grown.block p hM'.ps (fun h=>hM.vp h.symm))).trans (hM'.fz o)
 ·have h2:=(zBE kr ⟨p,1,none⟩ (by simp [Value.ownBlock]; exact fun h=>kp h.symm) v').stored i (u64 next)
  rw [List.length_set,List.map_set]
  exact h2.1
 ·rw [List.length_append,zCF]
  refine zBE (zBE ?_ _ hown.1 _) _ hown.2 _
  simpa [flatE] using hG.own
 ·have:=hG.grown.size
  simp [World.setCell]
  omega
 ·intro y hy
  rcases List.mem_or_eq_of_mem_set hy with h | rfl
  ·exact hM.num y h
  ·exact ⟨h0,h1⟩
 ·exact (hK1.setCell _ (.inl rfl) _).setCell _ (.inr (.inl rfl)) _
theorem zEn {w w' : World} {base : Nat} {p c : Nat} {v v' : Value} {C L} (h : Touched base w w' p c v v' C L) {k : Nat} (hf : Foot p c v' k) : Foot p c v k ∨ w.heap.size ≤ k:=by
 rcases hf with h1 | h1 | h1
 ·exact .inl (.inl h1)
 ·exact .inl (.inr (.inl h1))
 ·exact (h.moved k h1).imp (fun h=>.inr (.inr h)) id
end
section
structure Does (B : Nat → Prop) (base : Nat) (w w' : World) (p c : Nat) (v v' : Value) (C' : List Int) (L' : List Ev) : Prop where
 mem : IsMem base w' p c v' C' L'
 apart : ∀ i,B i → ¬ Foot p c v' i
 keep : Keep (fun i=>B i ∨ Foot p c v i) w w'
 moved : Moved w v v'
 size : base ≤ w'.heap.size
section
variable {B : Nat → Prop} {base : Nat} {w w1 w2 : World} {p c : Nat} {v v1 v2 : Value} {C C1 C2 : List Int} {L L1 L2 : List Ev}
theorem Does.refl (hM : IsMem base w p c v C L) (ha : ∀ i,B i → ¬ Foot p c v i) (hb : base ≤ w.heap.size) : Does B base w w p c v v C L :=
 ⟨hM,ha,Keep.refl _ _,zBV _ _,hb⟩
theorem Does.later (h : Does B base w w1 p c v v1 C L) (e : Below w1.heap.size w1 w2) : Does B base w w2 p c v v1 C L :=
 ⟨h.mem.later e,h.apart,h.keep.trans (Keep.of_below e),h.moved,Nat.le_trans h.size e.size⟩
theorem Does.own (h : Does B base w w1 p c v v1 C L) (e : Keep B w1 w2) : Does B base w w2 p c v v1 C L :=
 ⟨h.mem.keep e (fun i hi hb=>h.apart i hb hi),h.apart,h.keep.trans (e.mono fun _ h=>.inl h),h.moved,Nat.le_trans h.size e.size⟩
theorem Does.cells (h : Does B base w w1 p c v v1 C L) (hlt : ∀ i,B i → i < w1.heap.size) (t : Touched base w1 w2 p c v1 v2 C2 L2) : Does B base w w2 p c v v2 C2 L2 :=
 ⟨t.mem,fun i hi hf=>(zEn t hf).elim (h.apart i hi) (fun hs=>by have:=hlt i hi; omega),
  h.keep.then' t.keep (fun i hi=>by
   rcases hi with h1 | h1 | h1
   ·exact .inl (.inr (.inl h1))
   ·exact .inl (.inr (.inr (.inl h1)))
   ·exact (h.moved i h1).imp (fun h=>.inr (.inr (.inr h))) id),h.moved.trans t.moved h.keep.size,Nat.le_trans h.size t.keep.size⟩
theorem Does.drew (h : Does B base w w1 p c v v1 C L) : Does B base w w1.drew p c v v1 C L:=h.later (Below.refl _ _).drew
end
def tMem (base p c : Nat) (v : Value) (C : List Int) (L : List Ev) : Thing:=⟨fun w=>IsMem base w p c v C L,Foot p c v⟩
theorem zBy (base p c : Nat) (v : Value) (C : List Int) (L : List Ev) : (tMem base p c v C L).Ok base :=
 ⟨fun _ _ _ h k hn=>IsMem.keep h k hn,fun _ i h hi=>IsMem.foot h i hi⟩
section
variable {W w w' : World} {l : List Thing} {p c : Nat} {v v' : Value} {C C' : List Int} {L L' : List Ev}
theorem Hold.free (h : Hold W w l) (i j : Nat) {A : Thing} (hne : i ≠ j) (hi : l[i]? = some (tMem W.heap.size p c v C L)) (hj : l[j]? = some A) : ∀ q,A.F q → ¬ Foot p c v q :=
 fun q hq=>h.apart j i A _ hj hi (fun e=>hne e.symm) q hq
end
end
section
theorem Hold.sel {W w : World} {l l' : List Thing} (h : Hold W w l) (f : Nat → Nat) (hf : ∀ (i : Nat) (A : Thing),l'[i]? = some A → l[f i]? = some A) (hi : ∀ i j,i < l'.length → j < l'.length → f i = f j → i = j) : Hold W w l' :=
 ⟨h.size,h.below,fun i A hA=>h.ok _ A (hf i A hA),fun i A hA=>h.has _ A (hf i A hA),fun i j A B hA hB hne=>h.apart _ _ A B (hf i A hA) (hf j B hB) (fun e=>hne (hi i j (List.getElem?_eq_some_iff.1 hA).1 (List.getElem?_eq_some_iff.1 hB).1 e))⟩
theorem Hold.swap {W w : World} {a b c : Thing} (h : Hold W w [a,b,c]) : Hold W w [a,c,b] :=
 h.sel (fun i=>if i = 1 then 2 else if i = 2 then 1 else i) (fun i A hA=>by
  rcases i with _ | _ | _ | i
  ·exact hA
  ·exact hA
  ·exact hA
  ·simp at hA) (fun i j hi hj e=>by
  simp only [List.length_cons,List.length_nil] at hi hj
  rcases (by omega : i = 0 ∨ i = 1 ∨ i = 2) with rfl | rfl | rfl <;> rcases (by omega : j = 0 ∨ j = 1 ∨ j = 2) with rfl | rfl | rfl <;> simp at e ⊢)
theorem fld0 (s e g lo hi : Int) (w : World) : (Instr.field 140 (wd s e g lo hi) 0).run Tryz.prog w = .ok (i64 s) w:=by
 simp [Instr.field,go_sem,asAgg]
end
section
structure Gr (w w' : World) : Prop where
 below : Below w.heap.size w w'
 drawn : w.drawn ≤ w'.drawn
theorem Gr.refl (w : World) : Gr w w:=⟨Below.refl _ _,Nat.le_refl _⟩
theorem Gr.step {a b c : World} (h : Gr a b) (k : Gr b c) : Gr a c:=⟨zAE h.below k.below,Nat.le_trans h.drawn k.drawn⟩
theorem Gr.new {w W : World} (h : Gr w W) (o : Obj) : Gr w (W.alloc o):=⟨zAA h.below o,h.drawn⟩
theorem Gr.drew {w W : World} (h : Gr w W) : Gr w W.drew:=⟨h.below.drew,Nat.le_trans h.drawn (by show W.drawn ≤ W.drawn + 1; omega)⟩
theorem Gr.set {w W : World} (h : Gr w W) {p : Addr} (hp : w.heap.size ≤ p.block) (u : Value) : Gr w (W.setCell p u):=⟨zAG h.below hp u,h.drawn⟩
theorem Gr.cell {w W : World} (h : Gr w W) {a : Addr} {x : Value} (hx : w.cell? a = some x) : W.cell? a = some x:=(zAM h.below a (by rw [hx]; rfl)).trans hx
theorem zEs {w : World} {a : Addr} {v : Value} (h : w.cell? a = some v) (o : Obj) : (w.alloc o).cell? a = some v:=((Gr.refl w).new o).cell h
theorem Gr.grown {w w' : World} (h : Gr w w') : ∃ q os,w' = Go.Sort.grow (w.drewN q) os:=by
 refine ⟨w'.drawn - w.drawn,w'.heap.extract w.heap.size w'.heap.size, ?_⟩
 obtain ⟨⟨h1,h2,h3,h4,h5⟩,h6⟩:=h
 cases w with
 | mk a b c d e =>
  cases w' with
  | mk a' b' c' d' e' =>
   simp only at h1 h2 h3 h4 h5 h6
   subst h1 h2 h3
   simp only [Go.Sort.grow,World.drewN,World.mk.injEq,true_and]
   refine ⟨?_,by omega,trivial⟩
   apply Array.ext_getElem?
   intro k
   rw [Array.getElem?_append]
   by_cases hk : k < a.size
   ·rw [if_pos hk,h5 k hk]
   ·rw [if_neg hk,Array.getElem?_extract]
    by_cases hk2 : k < a'.size
    ·rw [if_pos (by omega)]
     congr 1
     omega
    ·rw [if_neg (by omega),Array.getElem?_eq_none (by omega)]
theorem zDQ (x y : Int) (b : Nat) (w : World) (h0 : w.cell? ⟨b,0,none⟩ = some (i64 x)) (h1 : w.cell? ⟨b,1,none⟩ = some (i64 y)) :
  Calls Tryz.prog 111 #[.slice (some ⟨b,0,none⟩) 2 2] w fun e w'=>e = .returned (i64 (orI x y)) ∧ w = w':=by
 go_enter Tryz.func111,Tryz.ntmps111
 go_wp2
 go_loop [8] (fun i => ∃ k : Nat,k ≤ 2 ∧ i = .int .i64 k ∧ Hid ((1 ≤ k → x = 0) ∧ (2 ≤ k → y = 0))) (fun i=>2 - (intOf i).toNat)
 case atStart=>exact ⟨0,by omega,rfl,⟨by omega,by omega⟩⟩
 case round =>
  obtain ⟨k,hk,rfl,hz⟩:=hrel
  rcases Nat.lt_or_ge k 2 with h2 | h2
  ·rcases Nat.lt_or_ge k 1 with h3 | h3
   ·obtain rfl : k = 0:=by omega
    by_cases hx : x = 0
    ·have hx' : (x != 0) = false:=by simp [hx]
     have Hx:=zIo hx; clear hx
     go_wp2
     go_round
     case rel=>exact ⟨1,by omega,rfl,⟨fun _=>Hx.out,by omega⟩⟩
     case measure=>simp [intOf]
    ·have hx' : (x != 0) = true:=by simp [hx]
     have Hx:=zIo hx; clear hx
     go_wp2
     go_ret
     exact ⟨by unfold orI; rw [if_neg Hx.out]; rfl,rfl⟩
   ·obtain rfl : k = 1:=by omega
    have Hz:=hz.out.1 (by omega)
    have HZ:=zIo Hz; clear Hz
    by_cases hx : y = 0
    ·have hx' : (y != 0) = false:=by simp [hx]
     have Hx:=zIo hx; clear hx
     go_wp2
     go_round
     case rel=>exact ⟨2,by omega,rfl,⟨fun _=>HZ.out,fun _=>Hx.out⟩⟩
     case measure=>simp [intOf]
    ·have hx' : (y != 0) = true:=by simp [hx]
     have Hx:=zIo hx; clear hx
     go_wp2
     go_ret
     exact ⟨by unfold orI; rw [if_pos HZ.out]; rfl,rfl⟩
  ·obtain rfl : k = 2:=by omega
   go_wp2
   go_ret
   exact ⟨by unfold orI; rw [if_pos (hz.out.1 (by omega)),hz.out.2 (by omega)]; rfl,rfl⟩
theorem zFj (a b c d : Int) (w : World) :
  Calls Tryz.prog 112 #[st a b,st c d] w fun e w'=>e = .returned (i64 (cmpS a b c d)) ∧ Gr w w':=by
 go_enter Tryz.func112,Tryz.ntmps112
 go_wp2
 go_region_held3 (fun w'=>w'.cell? ⟨w.heap.size,0,none⟩ = some (i64 a) ∧ w'.cell? ⟨w.heap.size,1,none⟩ = some (i64 b) ∧ w'.cell? ⟨w.heap.size + 1,0,none⟩ = some (i64 c) ∧ w'.cell? ⟨w.heap.size + 1,1,none⟩ = some (i64 d)) (first | go_keep | (refine ⟨cell_later hb ?_,cell_later hb ?_,cell_later hb ?_,cell_later hb ?_⟩ <;> go_simp))
  (first | (go_at_call 113; refine (zCq _ _ _).mono ?_; rintro e w' ⟨rfl,rfl⟩) | (go_at_call 111; refine (zDQ (cmpI a c) (cmpI b d) _ _ ?h0 ?h1).mono ?hm; (case h0=>go_simp); (case h1=>go_simp); rintro e w' ⟨rfl,rfl⟩))
 all_goals
  go_wp2
  go_ret
  exact ⟨rfl,by first | exact (((Gr.refl _).new _).new _).drew.new _⟩
theorem zCs (a b : Int) (w : World) :
  Calls Tryz.prog 114 #[i64 a,i64 b] w fun e w'=>e = .returned (i64 (cmpI a b)) ∧ w = w':=by
 by_cases h1 : a < b
 ·have hr : cmpI a b = -1:=by simp [cmpI,h1]
  have Hr:=zIo hr; clear hr
  go_enter Tryz.func114,Tryz.ntmps114
  go_wp2
  go_ret
  exact ⟨by rw [Hr.out]; rfl,rfl⟩
 ·by_cases h2 : b < a
  ·have hr : cmpI a b = 1:=by simp [cmpI,h1,h2]
   have Hr:=zIo hr; clear hr
   go_enter Tryz.func114,Tryz.ntmps114
   go_wp2
   go_ret
   exact ⟨by rw [Hr.out]; rfl,rfl⟩
  ·have hr : cmpI a b = 0:=by simp [cmpI,h1,h2]
   have Hr:=zIo hr; clear hr
   go_enter Tryz.func114,Tryz.ntmps114
   go_wp2
   go_ret
   exact ⟨by rw [Hr.out]; rfl,rfl⟩
theorem zAQ (x : Int) (w : World) (h0 : 0 ≤ x) (h1 : x ≤ 18446744073709551615) :
  Calls Tryz.prog 91 #[u64 x] w fun r w'=>r = .returned (wd (x % 4) (x / 4 % 2) (x / 8 % 8192) (x / 65536 % 16777216) (x / 1099511627776)) ∧ Gr w w':=by
 have c1 : wrap64 (bits BinOp.and IntKind.u64 x 3) = x % 4:=by rw [zA6 x 3 4 2 rfl rfl (by omega) (by omega) (by omega)]; unfold wrap64; omega
 have c2 : wrap64 (bits BinOp.and IntKind.u64 (x / 4) 1) = x / 4 % 2:=by rw [zA6 _ 1 2 1 rfl rfl (by omega) (by omega) (by omega)]; unfold wrap64; omega
 have c3 : wrap64 (bits BinOp.and IntKind.u64 (x / 8) 8191) = x / 8 % 8192:=by rw [zA6 _ 8191 8192 13 rfl rfl (by omega) (by omega) (by omega)]; unfold wrap64; omega
 have c4 : wrap64 (bits BinOp.and IntKind.u64 (x / 65536) 16777215) = x / 65536 % 16777216:=by rw [zA6 _ 16777215 16777216 24 rfl rfl (by omega) (by omega) (by omega)]; unfold wrap64; omega
 have c5 : wrap64 (bits BinOp.and IntKind.u64 (x / 1099511627776) 16777215) = x / 1099511627776:=by rw [zA6 _ 16777215 16777216 24 rfl rfl (by omega) (by omega) (by omega)]; unfold wrap64; omega
 rw [← c1, ← c2, ← c3, ← c4]
 rw [← c5]
 clear c1 c2 c3 c4 c5
 go_enter Tryz.func91,Tryz.ntmps91
 go_wp2_with fail
 refine bodyPost_ret (v:=wd (wrap64 (bits BinOp.and IntKind.u64 x 3)) (wrap64 (bits BinOp.and IntKind.u64 (x / 4) 1)) (wrap64 (bits BinOp.and IntKind.u64 (x / 8) 8191)) (wrap64 (bits BinOp.and IntKind.u64 (x / 65536) 16777215)) (wrap64 (bits BinOp.and IntKind.u64 (x / 1099511627776) 16777215))) (by simp [results,Tryz.results91,go_sem]) rfl ⟨rfl,(Gr.refl _).new _⟩
end
section
theorem zDw (base : Nat) (w : World) (p c : Nat) (v : Value) (C : List Int) (L : List Ev) (i : Nat) (hM : IsMem base w p c v C L) (hi : i < C.length) :
  Calls Tryz.prog 83 #[pt p,i64 i] w fun r w'=>r = .returned (.bool true) ∧ w = w':=by
 have c0:=hM.c0
 have hi' : (i : Int) < (C.length : Int):=by omega
 go_enter Tryz.func83,Tryz.ntmps83
 go_wp2
 go_ret
 exact ⟨rfl,rfl⟩
theorem zBl (base : Nat) (w : World) (p c : Nat) (v : Value) (C : List Int) (L : List Ev) (who op : Int) (i : Nat) (x next : Int) (ok : Bool) (hM : IsMem base w p c v C L) (hx : C[i]? = some x) (hb : base ≤ w.heap.size) (hL : L.length < 1000000000) (h0 : 0 ≤ next) (h1 : next ≤ 18446744073709551615) :
  Calls Tryz.prog 84 #[pt p,i64 who,i64 op,i64 i,u64 next,.bool ok] w (MemPost base w p c v (C.set i next) (L ++ [⟨who,op,i,x,next,ok⟩]) (.returned (.tuple #[]))):=by
 have c0:=hM.c0
 have c1:=hM.c1
 have cx:=hM.at' hx
 have f0:=hM.fz 0
 have f1:=hM.fz 1
 have hi:=(List.getElem?_eq_some_iff.1 hx).1
 have hi' : (i : Int) < (C.length : Int):=by omega
 have fx:=hM.row.frozenAt i
 have hs:=hM.ps
 have hcs:=hM.cb
 have hne:=hM.pc
 have HM:=zIo hM
 have HX:=zIo hx
 clear hM hx
 go_enter Tryz.func84,Tryz.ntmps84
 go_wp2_with fail
 go_region_law (refine zBH rfl _ _ 111 rfl base 169 _ 6 48 zIY v L.length (flatE L) rfl ?_ (some ⟨w.heap.size,0,none⟩) 1 1 (Ev.cells ⟨who,op,i,x,next,ok⟩) rfl ?_ (by unfold maxLen; omega) (by omega) ?_ ?_; (focus exact (HM.out.later (by first | exact (zAA (Below.refl _ _) _).drew | exact zAA (Below.refl _ _).drew _)).log); (focus exact zHZ w _ ⟨who,op,i,x,next,ok⟩ rfl); (focus (simp; omega)); intro v' w' hG; have HG:=zEy HM.out HX.out (by first | exact (zAA (Below.refl _ _) _).drew | exact zAA (Below.refl _ _).drew _) hG; obtain ⟨c0',c1',cx',f0',f1',fx'⟩:=HG; obtain ⟨A',cap',rfl⟩:=zAK hG.own; replace hG:=zIo hG)
 all_goals
  go_wp2
  go_end0
  exact ⟨rfl,_,zGK HM.out hi (by first | exact (zAA (Below.refl _ _) _).drew | exact zAA (Below.refl _ _).drew _) hG.out h0 h1⟩
end
section
def add64 (a b : Int) : Int:=IntKind.u64.wrap (a + b)
theorem zBb (n : Nat) : (madeCells (Value.int .u64 0).cells (n * 1)).toList = (List.replicate n (0 : Int)).map u64:=by
 rw [Nat.mul_one,List.map_replicate]
 exact toList_madeCells_one (.int .u64 0) n
theorem zHB {base n : Nat} {w w1 : World} (hb : base ≤ w.heap.size) (h : w1.ownsRow base 41 1 (.slice (some ⟨w.heap.size,0,none⟩) n n) n (madeCells (Value.int .u64 0).cells (n * 1)).toList) (hg : w.grownBy w1 none) (hs : w.heap.size < w1.heap.size) :
  IsMem base (w1.alloc (.cells #[.slice (some ⟨w.heap.size,0,none⟩) n n,.slice none 0 0] 113)) w1.heap.size w.heap.size (.slice none 0 0) (List.replicate n 0) [] ∧ Below w.heap.size w (w1.alloc (.cells #[.slice (some ⟨w.heap.size,0,none⟩) n n,.slice none 0 0] 113)):=by
 rw [zBb] at h
 have hl : (List.replicate n (0 : Int)).length = n:=List.length_replicate
 refine ⟨⟨?_,World.cell?_alloc_new w1 _ _ 1,fun o=>World.frozen?_alloc_at _ _ _ _ rfl, ?_,World.ownsRow_nil _ _ _ _,by omega,by simp [Value.ownBlock],by simp [Value.ownBlock],by omega,by simp, ?_⟩, ?_⟩
 ·rw [hl]
  exact World.cell?_alloc_new w1 _ _ 0
 ·rw [hl]
  exact h.alloc _
 ·intro x hx
  rw [List.eq_of_mem_replicate hx]
  decide
 ·exact zAA ((Below.refl _ _).grown hg (Nat.le_refl _) (fun k hk=>by cases hk)) _
def NewPost (base n : Nat) (w : World) (r : Ending) (w' : World) : Prop :=
 ∃ p c,r = .returned (pt p) ∧ IsMem base w' p c (.slice none 0 0) (List.replicate n 0) [] ∧ Below w.heap.size w w' ∧ w.heap.size ≤ p ∧ w.heap.size ≤ c
theorem zD5 (base : Nat) (n : Nat) (k : Int) (w : World) (hb : base ≤ w.heap.size) (h : n ≤ 65536) (hk : (k = n ∨ (k < 0 ∧ n ≤ 0) ∨ (65536 < k ∧ 65536 ≤ n))) :
  Calls Tryz.prog 35 #[i64 k] w (NewPost base n w):=by
 obtain ⟨i,hi,hz0,hz1,hz2⟩:=zAW.info
 rcases hk with rfl | ⟨hk,hn⟩ | ⟨hk,hn⟩
 all_goals
  go_enter Tryz.func35,Tryz.ntmps35
  go_wp2_with (refine wpList_make_full _ rfl _ _ 38 rfl base 41 i (.int .u64 0) 1 zAW.und hi hz0 hz1 .i64 .i64 _ _ n rfl rfl (by first | rfl | omega) (by first | rfl | omega) (by rw [hz2]; omega) (by unfold maxLen; omega) hb ?_; intro w1 hown hgrow; have hs1:=(hown.lt _ rfl).2)
  go_ret
  have hp:=zHB hb hown hgrow hs1
  exact ⟨_,_,rfl,hp.1,hp.2,hgrow.size,Nat.le_refl _⟩
section
variable (base : Nat) (w : World) (p c : Nat) (v : Value) (C : List Int) (L : List Ev)
theorem zDD {C : List Int} {i : Nat} {x : Int} (hx : C[i]? = some x) : C.set i x = C:=by
 apply List.ext_getElem?
 intro j
 rw [List.getElem?_set]
 split
 ·rename_i h
  subst h
  have:=(List.getElem?_eq_some_iff.1 hx).1
  simp only [this,if_true,hx]
 ·rfl
theorem zAt (who : Int) (i : Nat) (x : Int) (hM : IsMem base w p c v C L) (hx : C[i]? = some x) (hb : base ≤ w.heap.size) (hL : L.length < 1000000000) :
  Calls Tryz.prog 92 #[pt p,i64 who,i64 i] w (MemPost base w p c v C (L ++ [⟨who,0,i,x,x,true⟩]) (.returned (u64 x))):=by
 have c0:=hM.c0
 have cx:=hM.at' hx
 have hi:=(List.getElem?_eq_some_iff.1 hx).1
 have hi' : (i : Int) < (C.length : Int):=by omega
 have ht:=zBl base w p c v C L who 0 i x x true hM hx hb hL (hM.numAt hx).1 (hM.numAt hx).2
 rw [zDD hx] at ht
 have HT:=zIo ht
 have HM:=zIo hM
 clear hM hx ht
 go_enter Tryz.func92,Tryz.ntmps92
 go_wp2_with fail
 refine (zDw base _ p c v C L i HM.out hi).mono ?_
 rintro r w1 ⟨rfl,rfl⟩
 go_wp2_with fail
 refine HT.out.mono ?_
 rintro r w1 ⟨rfl,v',hT⟩
 go_wp2
 go_ret
 exact ⟨rfl,v',hT⟩
theorem zBS (who : Int) (i : Nat) (x y : Int) (hM : IsMem base w p c v C L) (hx : C[i]? = some x) (hb : base ≤ w.heap.size) (hL : L.length < 1000000000) (h0 : 0 ≤ y) (h1 : y ≤ 18446744073709551615) :
  Calls Tryz.prog 64 #[pt p,i64 who,i64 i,u64 y] w (MemPost base w p c v (C.set i y) (L ++ [⟨who,1,i,x,y,true⟩]) (.returned (.tuple #[]))):=by
 have hi:=(List.getElem?_eq_some_iff.1 hx).1
 have ht:=zBl base w p c v C L who 1 i x y true hM hx hb hL h0 h1
 have HT:=zIo ht
 have HM:=zIo hM
 clear hM hx ht
 go_enter Tryz.func64,Tryz.ntmps64
 go_wp2_with fail
 refine (zDw base _ p c v C L i HM.out hi).mono ?_
 rintro r w1 ⟨rfl,rfl⟩
 go_wp2_with fail
 refine HT.out.mono ?_
 rintro r w1 ⟨rfl,v',hT⟩
 go_wp2
 go_end0
 exact ⟨rfl,v',hT⟩
theorem zEf (who : Int) (i : Nat) (x y : Int) (hM : IsMem base w p c v C L) (hx : C[i]? = some x) (hb : base ≤ w.heap.size) (hL : L.length < 1000000000) (h0 : 0 ≤ y) (h1 : y ≤ 18446744073709551615) :
  Calls Tryz.prog 100 #[pt p,i64 who,i64 i,u64 x,u64 y] w (MemPost base w p c v (C.set i y) (L ++ [⟨who,2,i,x,y,true⟩]) (.returned (.bool true))):=by
 have c0:=hM.c0
 have cx:=hM.at' hx
 have hi:=(List.getElem?_eq_some_iff.1 hx).1
 have hi' : (i : Int) < (C.length : Int):=by omega
 have ht:=zBl base w p c v C L who 2 i x y true hM hx hb hL h0 h1
 have HT:=zIo ht
 have HM:=zIo hM
 clear hM hx ht
 go_enter Tryz.func100,Tryz.ntmps100
 go_wp2_with fail
 refine (zDw base _ p c v C L i HM.out hi).mono ?_
 rintro r w1 ⟨rfl,rfl⟩
 go_wp2_with fail
 refine HT.out.mono ?_
 rintro r w1 ⟨rfl,v',hT⟩
 go_wp2
 go_ret
 exact ⟨rfl,v',hT⟩
theorem zGI (who : Int) (i : Nat) (x z y : Int) (hM : IsMem base w p c v C L) (hx : C[i]? = some x) (hb : base ≤ w.heap.size) (hL : L.length < 1000000000) (hne : x ≠ z) :
  Calls Tryz.prog 100 #[pt p,i64 who,i64 i,u64 z,u64 y] w (MemPost base w p c v C (L ++ [⟨who,2,i,x,x,false⟩]) (.returned (.bool false))):=by
 have c0:=hM.c0
 have cx:=hM.at' hx
 have hi:=(List.getElem?_eq_some_iff.1 hx).1
 have hi' : (i : Int) < (C.length : Int):=by omega
 have ht:=zBl base w p c v C L who 2 i x x false hM hx hb hL (hM.numAt hx).1 (hM.numAt hx).2
 rw [zDD hx] at ht
 have HT:=zIo ht
 have HM:=zIo hM
 have hd : (x == z) = false:=by simpa using hne
 have hd' : (x != z) = true:=by simpa using hne
 clear hM hx ht
 go_enter Tryz.func100,Tryz.ntmps100
 go_wp2_with fail
 refine (zDw base _ p c v C L i HM.out hi).mono ?_
 rintro r w1 ⟨rfl,rfl⟩
 go_wp2_with fail
 refine HT.out.mono ?_
 rintro r w1 ⟨rfl,v',hT⟩
 go_wp2
 go_ret
 exact ⟨rfl,v',hT⟩
theorem zCY (a b : Int) : 0 ≤ add64 a b ∧ add64 a b ≤ 18446744073709551615:=by
 unfold add64
 rw [IntKind.wrap_u64]
 omega
theorem add_in (who : Int) (i : Nat) (x y : Int) (hM : IsMem base w p c v C L) (hx : C[i]? = some x) (hb : base ≤ w.heap.size) (hL : L.length < 1000000000) :
  Calls Tryz.prog 96 #[pt p,i64 who,i64 i,u64 y] w (MemPost base w p c v (C.set i (add64 x y)) (L ++ [⟨who,3,i,x,add64 x y,true⟩]) (.returned (u64 x))):=by
 have c0:=hM.c0
 have cx:=hM.at' hx
 have hi:=(List.getElem?_eq_some_iff.1 hx).1
 have hi' : (i : Int) < (C.length : Int):=by omega
 have ht:=zBl base w p c v C L who 3 i x (add64 x y) true hM hx hb hL (zCY x y).1 (zCY x y).2
 have HT:=zIo ht
 have HM:=zIo hM
 clear hM hx ht
 go_enter Tryz.func96,Tryz.ntmps96
 go_wp2_with fail
 refine (zDw base _ p c v C L i HM.out hi).mono ?_
 rintro r w1 ⟨rfl,rfl⟩
 go_wp2_with fail
 refine HT.out.mono ?_
 rintro r w1 ⟨rfl,v',hT⟩
 go_wp2
 go_ret
 exact ⟨rfl,v',hT⟩
end
end
section
end
section
end
section
end
end
section
open Go.RowKit
instance (m : CM) : Decidable m.Right:=by unfold CM.Right CM.beg CM.stp CM.pas; infer_instance
def CM.list (m : CM) : List Value:=[i64 m.k,i64 m.who,i64 m.ck,i64 m.ce,u64 m.v,i64 m.st,i64 m.n]
abbrev CM.val (m : CM) : Value:=.agg #[.int .i64 m.k,.int .i64 m.who,.int .i64 m.ck,.int .i64 m.ce,.int .u64 m.v,.int .i64 m.st,.int .i64 m.n]
abbrev CM.obj (m : CM) (T : TypeId) : Obj:=.cells #[.int .i64 m.k,.int .i64 m.who,.int .i64 m.ck,.int .i64 m.ce,.int .u64 m.v,.int .i64 m.st,.int .i64 m.n] T
theorem zAm (x : Int) (b : Bool) (hb : decide (0 ≤ x ∧ x < 64) = b) (w : World) :
  Calls Tryz.prog 33 #[i64 x] w fun r w'=>r = .returned (.bool b) ∧ w = w':=by
 by_cases h0 : 0 ≤ x
 ·by_cases h1 : x < 64
  ·obtain rfl : b = true:=by rw [← hb]; exact decide_eq_true ⟨h0,h1⟩
   clear hb
   go_enter Tryz.func33,Tryz.ntmps33
   go_wp2
   go_ret
   exact ⟨rfl,rfl⟩
  ·obtain rfl : b = false:=by rw [← hb]; exact decide_eq_false (fun h=>h1 h.2)
   clear hb
   go_enter Tryz.func33,Tryz.ntmps33
   go_wp2
   go_ret
   exact ⟨rfl,rfl⟩
 ·obtain rfl : b = false:=by rw [← hb]; exact decide_eq_false (fun h=>h0 h.1)
  clear hb
  go_enter Tryz.func33,Tryz.ntmps33
  go_wp2
  go_ret
  exact ⟨rfl,rfl⟩
theorem zBJ (ck ce v s : Int) (b : Bool) (hb : b = true ↔ (ck = 0 ∨ ck = 1) ∧ (ce = 0 ∨ ce = 1)) (w : World) :
  Calls Tryz.prog 22 #[.agg #[.int .i64 ck,.int .i64 ce,.int .u64 v,.int .i64 s]] w fun r w'=>r = .returned (.bool b) ∧ Below w.heap.size w w':=by
 have HB:=zIo (zAA (Below.refl w.heap.size w) (.cells #[.int .i64 ck,.int .i64 ce,.int .u64 v,.int .i64 s] 48))
 have yes : (ck = 0 ∨ ck = 1) ∧ (ce = 0 ∨ ce = 1) → b = true:=hb.2
 have no : ¬ ((ck = 0 ∨ ck = 1) ∧ (ce = 0 ∨ ce = 1)) → b = false:=fun h=>by
  cases b
  ·rfl
  ·exact absurd (hb.1 rfl) h
 clear hb
 by_cases h1 : ck = 0 ∨ ck = 1
 ·by_cases h2 : ce = 0 ∨ ce = 1
  ·rw [yes ⟨h1,h2⟩]
   clear yes no
   rcases h1 with rfl | rfl <;> rcases h2 with rfl | rfl
   all_goals
    go_enter Tryz.func22,Tryz.ntmps22
    go_wp2_with fail
    go_ret
    exact ⟨rfl,HB.out⟩
  ·rw [no (fun h=>h2 h.2)]
   have p1 : (ce == 0) = false:=beq_false_of_ne (fun e=>h2 (.inl e))
   have p2 : (ce == 1) = false:=beq_false_of_ne (fun e=>h2 (.inr e))
   clear yes no h2
   rcases h1 with rfl | rfl
   all_goals
    go_enter Tryz.func22,Tryz.ntmps22
    go_wp2_with fail
    go_ret
    exact ⟨rfl,HB.out⟩
 ·rw [no (fun h=>h1 h.1)]
  have p1 : (ck == 0) = false:=beq_false_of_ne (fun e=>h1 (.inl e))
  have p2 : (ck == 1) = false:=beq_false_of_ne (fun e=>h1 (.inr e))
  clear yes no h1
  go_enter Tryz.func22,Tryz.ntmps22
  go_wp2_with fail
  go_ret
  exact ⟨rfl,HB.out⟩
def fitsC (ck ce v s : Int) : Prop:=(ce = 0 ∨ ce = 1) ∧ ((ck = 0 ∧ s = 0) ∨ (ck = 1 ∧ v = 0 ∧ 0 ≤ s ∧ s ≤ 255))
theorem zD2 (ck ce v s : Int) (b : Bool) (hb : b = true ↔ fitsC ck ce v s) (w : World) :
  Calls Tryz.prog 34 #[.agg #[.int .i64 ck,.int .i64 ce,.int .u64 v,.int .i64 s]] w fun r w'=>r = .returned (.bool b) ∧ Below w.heap.size w w':=by
 have HB:=zIo (zAA (Below.refl w.heap.size w) (.cells #[.int .i64 ck,.int .i64 ce,.int .u64 v,.int .i64 s] 48))
 have yes : fitsC ck ce v s → b = true:=hb.2
 have no : ¬ fitsC ck ce v s → b = false:=fun h=>by
  cases b
  ·rfl
  ·exact absurd (hb.1 rfl) h
 clear hb
 by_cases h : (ck = 0 ∨ ck = 1) ∧ (ce = 0 ∨ ce = 1)
 ·obtain ⟨h1 | h1,h2⟩:=h
  ·subst h1
   have hbb : b = decide (s = 0):=by
    by_cases e : s = 0
    ·rw [decide_eq_true e]
     exact yes ⟨h2,.inl ⟨rfl,e⟩⟩
    ·rw [decide_eq_false e]
     exact no (fun h=>by have:=h.2; omega)
   rw [hbb]
   clear yes no hbb
   have h2':=zIo h2
   clear h2
   go_enter Tryz.func34,Tryz.ntmps34
   go_wp2_with fail
   refine (zBJ 0 ce v s true ⟨fun _=>⟨.inl rfl,h2'.out⟩,fun _=>rfl⟩ _).mono ?_
   rintro r w2 ⟨rfl,hb⟩
   have HB2:=zIo (zAE HB.out hb)
   obtain ⟨hc,hf⟩:=bcell hb
   clear HB hb
   go_wp2
   go_ret
   refine ⟨?_,HB2.out⟩
   rfl
  ·subst h1
   have HB2 : ∀ w2,Below (w.alloc (.cells #[.int .i64 1,.int .i64 ce,.int .u64 v,.int .i64 s] 48)).heap.size (w.alloc (.cells #[.int .i64 1,.int .i64 ce,.int .u64 v,.int .i64 s] 48)) w2 → Below w.heap.size w w2:=fun w2 h=>zAE HB.out h
   have HBB:=zIo HB2
   have hno : fitsC 1 ce v s ↔ v = 0 ∧ 0 ≤ s ∧ s ≤ 255:=⟨fun h=>by have:=h.2; omega,fun h=>⟨h2,.inr ⟨rfl,h⟩⟩⟩
   rw [hno] at yes no
   have h2':=zIo h2
   clear h2 HB HB2 hno
   have ways : (v = 0 ∧ 0 ≤ s ∧ s ≤ 255 ∧ b = true) ∨ (v = 0 ∧ 0 ≤ s ∧ ¬ s ≤ 255 ∧ b = false) ∨ (v = 0 ∧ ¬ 0 ≤ s ∧ b = false) ∨ (¬ v = 0 ∧ b = false):=by
    by_cases w1 : v = 0
    ·by_cases w2 : 0 ≤ s
     ·by_cases w3 : s ≤ 255
      ·exact .inl ⟨w1,w2,w3,yes ⟨w1,w2,w3⟩⟩
      ·exact .inr (.inl ⟨w1,w2,w3,no (fun q=>w3 q.2.2)⟩)
     ·exact .inr (.inr (.inl ⟨w1,w2,no (fun q=>w2 q.2.1)⟩))
    ·exact .inr (.inr (.inr ⟨w1,no (fun q=>w1 q.1)⟩))
   clear yes no
   rcases ways with ⟨rfl,y2,y3,rfl⟩ | ⟨rfl,y2,y3,rfl⟩ | ⟨rfl,y2,rfl⟩ | ⟨y1,rfl⟩
   all_goals
    go_enter Tryz.func34,Tryz.ntmps34
    go_wp2_with fail
    refine (zBJ 1 ce _ s true ⟨fun _=>⟨.inr rfl,h2'.out⟩,fun _=>rfl⟩ _).mono ?_
    rintro r w2 ⟨rfl,hb⟩
    have HB2:=zIo (HBB.out _ hb)
    obtain ⟨hc,hf⟩:=bcell hb
    clear HBB hb
    go_wp2
    go_ret
    first
     | exact ⟨rfl,HB2.out⟩
     | exact ⟨congrArg (fun b=>Ending.returned (.bool b)) (decide_eq_false (by omega)),HB2.out⟩
     | exact ⟨congrArg (fun b=>Ending.returned (.bool b)) (decide_eq_true (by omega)),HB2.out⟩
 ·rw [no (fun hh=>h ⟨by have:=hh.2; omega,hh.1⟩)]
  have h':=zIo h
  clear yes no h
  go_enter Tryz.func34,Tryz.ntmps34
  go_wp2_with fail
  refine (zBJ ck ce v s false ⟨(fun q=>by cases q),fun q=>absurd q h'.out⟩ _).mono ?_
  rintro r w2 ⟨rfl,hb⟩
  have HB2:=zIo (zAE HB.out hb)
  clear HB hb
  go_wp2
  go_ret
  exact ⟨rfl,HB2.out⟩
theorem zAV (m : CM) (w : World) : Calls Tryz.prog 16 #[m.val] w fun r w'=>r = .returned (.bool (decide m.Right)) ∧ Below w.heap.size w w':=by
 obtain ⟨k,who,ck,ce,v,s,n⟩:=m
 have HB:=zIo (zAA (Below.refl w.heap.size w) ((⟨k,who,ck,ce,v,s,n⟩ : CM).obj 50))
 have yes : (⟨k,who,ck,ce,v,s,n⟩ : CM).Right → decide (⟨k,who,ck,ce,v,s,n⟩ : CM).Right = true:=decide_eq_true
 have no : ¬ (⟨k,who,ck,ce,v,s,n⟩ : CM).Right → decide (⟨k,who,ck,ce,v,s,n⟩ : CM).Right = false:=decide_eq_false
 unfold CM.val at *
 simp only
 generalize decide (⟨k,who,ck,ce,v,s,n⟩ : CM).Right = b at yes no ⊢
 unfold CM.Right CM.beg CM.stp CM.pas at yes no
 simp only at yes no
 by_cases k0 : k = 0
 ·subst k0
  by_cases hw : 0 ≤ who ∧ who < 64
  ·by_cases hn : n = 0
   ·subst hn
    have hbb : b = true ↔ fitsC ck ce v s:=by
     unfold fitsC
     constructor
     ·intro hb
      by_cases q : (ce = 0 ∨ ce = 1) ∧ ((ck = 0 ∧ s = 0) ∨ (ck = 1 ∧ v = 0 ∧ 0 ≤ s ∧ s ≤ 255))
      ·exact q
      ·rw [no (by omega)] at hb
       cases hb
     ·intro q
      exact yes (by omega)
    have HBB:=zIo hbb
    have HW:=zIo hw
    clear yes no hbb hw
    go_enter Tryz.func16,Tryz.ntmps16
    go_wp2_with fail
    refine (zAm who true (decide_eq_true HW.out) _).mono ?_
    rintro r w2 ⟨rfl,rfl⟩
    go_wp2_with fail
    refine (zD2 ck ce v s b HBB.out _).mono ?_
    rintro r w2 ⟨rfl,hb⟩
    have HB2:=zIo (zAE HB.out hb)
    clear HB hb
    go_wp2
    go_ret
    exact ⟨rfl,HB2.out⟩
   ·rw [no (by omega)]
    have pn : (n == 0) = false:=beq_false_of_ne hn
    have HW:=zIo hw
    clear yes no hw
    go_enter Tryz.func16,Tryz.ntmps16
    go_wp2_with fail
    refine (zAm who true (decide_eq_true HW.out) _).mono ?_
    rintro r w2 ⟨rfl,rfl⟩
    go_wp2
    go_ret
    exact ⟨rfl,HB.out⟩
  ·rw [no (by omega)]
   have HW:=zIo hw
   clear yes no hw
   go_enter Tryz.func16,Tryz.ntmps16
   go_wp2_with fail
   refine (zAm who false (decide_eq_false HW.out) _).mono ?_
   rintro r w2 ⟨rfl,rfl⟩
   go_wp2
   go_ret
   exact ⟨rfl,HB.out⟩
 ·have pk0 : (k == 0) = false:=beq_false_of_ne k0
  by_cases k1 : k = 1
  ·subst k1
   by_cases hw : 0 ≤ who ∧ who < 64
   ·by_cases hz : ck = 0 ∧ ce = 0 ∧ v = 0 ∧ s = 0 ∧ n = 0
    ·obtain ⟨rfl,rfl,rfl,rfl,rfl⟩:=hz
     rw [yes (by omega)]
     have HW:=zIo hw
     clear yes no hw k0
     go_enter Tryz.func16,Tryz.ntmps16
     go_wp2_with fail
     refine (zAm who true (decide_eq_true HW.out) _).mono ?_
     rintro r w2 ⟨rfl,rfl⟩
     go_wp2
     go_ret
     exact ⟨rfl,HB.out⟩
    ·rw [no (by omega)]
     have HW:=zIo hw
     clear yes no hw k0
     rcases (by omega : ¬ ck = 0 ∨ (ck = 0 ∧ ¬ ce = 0) ∨ (ck = 0 ∧ ce = 0 ∧ ¬ v = 0) ∨ (ck = 0 ∧ ce = 0 ∧ v = 0 ∧ ¬ s = 0) ∨ (ck = 0 ∧ ce = 0 ∧ v = 0 ∧ s = 0 ∧ ¬ n = 0)) with c | ⟨rfl,c⟩ | ⟨rfl,rfl,c⟩ | ⟨rfl,rfl,rfl,c⟩ | ⟨rfl,rfl,rfl,rfl,c⟩
     all_goals
      clear hz
      go_enter Tryz.func16,Tryz.ntmps16
      go_wp2_with fail
      refine (zAm who true (decide_eq_true HW.out) _).mono ?_
      rintro r w2 ⟨rfl,rfl⟩
      go_wp2
      go_ret
      exact ⟨rfl,HB.out⟩
   ·rw [no (by omega)]
    have HW:=zIo hw
    clear yes no hw k0
    go_enter Tryz.func16,Tryz.ntmps16
    go_wp2_with fail
    refine (zAm who false (decide_eq_false HW.out) _).mono ?_
    rintro r w2 ⟨rfl,rfl⟩
    go_wp2
    go_ret
    exact ⟨rfl,HB.out⟩
  ·have pk1 : (k == 1) = false:=beq_false_of_ne k1
   by_cases k2 : k = 2
   ·subst k2
    by_cases hn1 : 1 ≤ n
    ·by_cases hn2 : n ≤ 65535
     ·by_cases hz : who = 0 ∧ ck = 0 ∧ ce = 0 ∧ v = 0 ∧ s = 0
      ·obtain ⟨rfl,rfl,rfl,rfl,rfl⟩:=hz
       rw [yes (by omega)]
       clear yes no k0 k1
       go_enter Tryz.func16,Tryz.ntmps16
       go_wp2
       go_ret
       exact ⟨rfl,HB.out⟩
      ·rw [no (by omega)]
       clear yes no k0 k1
       rcases (by omega : ¬ who = 0 ∨ (who = 0 ∧ ¬ ck = 0) ∨ (who = 0 ∧ ck = 0 ∧ ¬ ce = 0) ∨ (who = 0 ∧ ck = 0 ∧ ce = 0 ∧ ¬ v = 0) ∨ (who = 0 ∧ ck = 0 ∧ ce = 0 ∧ v = 0 ∧ ¬ s = 0)) with c | ⟨rfl,c⟩ | ⟨rfl,rfl,c⟩ | ⟨rfl,rfl,rfl,c⟩ | ⟨rfl,rfl,rfl,rfl,c⟩
       all_goals
        clear hz
        go_enter Tryz.func16,Tryz.ntmps16
        go_wp2
        go_ret
        exact ⟨rfl,HB.out⟩
     ·rw [no (by omega)]
      clear yes no k0 k1
      go_enter Tryz.func16,Tryz.ntmps16
      go_wp2
      go_ret
      exact ⟨rfl,HB.out⟩
    ·rw [no (by omega)]
     clear yes no k0 k1
     go_enter Tryz.func16,Tryz.ntmps16
     go_wp2
     go_ret
     exact ⟨rfl,HB.out⟩
   ·have pk2 : (k == 2) = false:=beq_false_of_ne k2
    rw [no (by omega)]
    clear yes no k0 k1 k2
    go_enter Tryz.func16,Tryz.ntmps16
    go_wp2
    go_ret
    exact ⟨rfl,HB.out⟩
end
section
open Go.RowKit
theorem and_63 (a : Int) : bits .and .i64 a 63 = a % 64:=by rw [show (63 : Int) = ((63 : Nat) : Int) from rfl,zBe a 63 6 rfl (by decide)]; rfl
theorem zIF (a : Int) : bits .and .i64 a 255 = a % 256:=by rw [show (255 : Int) = ((255 : Nat) : Int) from rfl,zBe a 255 8 rfl (by decide)]; rfl
theorem zHU (a : Int) : bits .and .i64 a 32767 = a % 32768:=by rw [show (32767 : Int) = ((32767 : Nat) : Int) from rfl,zBe a 32767 15 rfl (by decide)]; rfl
theorem and_31 (a : Int) : bits .and .i64 a 31 = a % 32:=by rw [show (31 : Int) = ((31 : Nat) : Int) from rfl,zBe a 31 5 rfl (by decide)]; rfl
end
section
open Go.RowKit
structure LM where
 kind : Int
 who : Int
 n : Int
 start : Int
 take : Bool
 right : Bool
 value : Int
 odd : Int
abbrev LM.val (v : LM) : Value:=.agg #[.int .i64 v.kind,.int .i64 v.who,.int .i64 v.n,.int .i64 v.start,.bool v.take,.bool v.right,.int .u64 v.value,.int .i64 v.odd]
abbrev LM.obj (v : LM) (T : TypeId) : Obj:=.cells #[.int .i64 v.kind,.int .i64 v.who,.int .i64 v.n,.int .i64 v.start,.bool v.take,.bool v.right,.int .u64 v.value,.int .i64 v.odd] T
def LM.list (v : LM) : List Value:=[.int .i64 v.kind,.int .i64 v.who,.int .i64 v.n,.int .i64 v.start,.bool v.take,.bool v.right,.int .u64 v.value,.int .i64 v.odd]
def LM.k (v : LM) : Int:=IntKind.u64.wrap v.kind % 3
def LM.base (v : LM) : CM :=
 if v.k = 0 then (if v.take then ⟨0,v.who % 64,1,if v.right then 1 else 0,0,v.start % 256,0⟩ else ⟨0,v.who % 64,0,if v.right then 1 else 0,v.value,0,0⟩)
 else if v.k = 2 then ⟨2,0,0,0,0,0,1 + v.n % 32768⟩ else ⟨1,v.who % 64,0,0,0,0,0⟩
def LM.turn (v : LM) (m : CM) : CM :=
 if v.odd % 32 = 1 then { m with k:=v.kind } else if v.odd % 32 = 2 then { m with who:=v.who } else if v.odd % 32 = 3 then { m with n:=v.n } else if v.odd % 32 = 4 then { m with st:=v.start } else if v.odd % 32 = 5 then { m with v:=v.value }
 else if v.odd % 32 = 6 then { m with ck:=v.n } else if v.odd % 32 = 7 then { m with ce:=v.n } else m
def LM.make (v : LM) : CM:=v.turn v.base
theorem LM.k_cases (v : LM) : v.k = 0 ∨ v.k = 1 ∨ v.k = 2:=by unfold LM.k; omega
theorem LM.even {v : LM} (h : v.odd = 0) : v.make = v.base:=by
 unfold LM.make LM.turn
 rw [h]
 rfl
structure MkBx (w wx : World) (v : LM) : Prop where
 below : Below w.heap.size w wx
 arg : IsObj wx w.heap.size v.list
 res : IsObj wx (w.heap.size + 1) [.int .i64 0,.int .i64 0,.int .i64 0,.int .i64 0,.int .u64 0,.int .i64 0,.int .i64 0]
theorem MkBx.set {w wx : World} {v : LM} (h : MkBx w wx v) (j : Nat) (u : Value) : MkBx w (wx.setCell ⟨w.heap.size + 1 + 1,j,none⟩ u) v :=
 ⟨zAG h.below (by show w.heap.size ≤ w.heap.size + 1 + 1; omega) u,h.arg.other j u (by omega),h.res.other j u (by omega)⟩
structure MkAt (w wx : World) (v : LM) (m : CM) : Prop where
 bx : MkBx w wx v
 obj : IsObj wx (w.heap.size + 1 + 1) [.int .i64 m.k,.int .i64 m.who,.int .i64 m.ck,.int .i64 m.ce,.int .u64 m.v,.int .i64 m.st,.int .i64 m.n]
theorem zB1 (v : LM) (w : World) : Calls Tryz.prog 8 #[v.val] w fun r w'=>r = .returned v.make.val ∧ Below w.heap.size w w':=by
 have hb : (v.k = 0 ∧ v.take = false ∧ v.base = ⟨0,v.who % 64,0,if v.right then 1 else 0,v.value,0,0⟩) ∨ (v.k = 0 ∧ v.take = true ∧ v.base = ⟨0,v.who % 64,1,if v.right then 1 else 0,0,v.start % 256,0⟩) ∨ (v.k = 1 ∧ v.base = ⟨1,v.who % 64,0,0,0,0,0⟩) ∨ (v.k = 2 ∧ v.base = ⟨2,0,0,0,0,0,1 + v.n % 32768⟩):=by
  rcases v.k_cases with h | h | h
  ·cases ht : v.take
   ·exact .inl ⟨h,rfl,by unfold LM.base; rw [if_pos h,ht]; rfl⟩
   ·exact .inr (.inl ⟨h,rfl,by unfold LM.base; rw [if_pos h,ht]; rfl⟩)
  ·exact .inr (.inr (.inl ⟨h,by unfold LM.base; rw [if_neg (by omega),if_neg (by omega)]⟩))
  ·exact .inr (.inr (.inr ⟨h,by unfold LM.base; rw [if_neg (by omega),if_pos h]⟩))
 have ho : (v.odd % 32 = 1 ∧ v.make = { v.base with k:=v.kind }) ∨ (v.odd % 32 = 2 ∧ v.make = { v.base with who:=v.who }) ∨ (v.odd % 32 = 3 ∧ v.make = { v.base with n:=v.n }) ∨ (v.odd % 32 = 4 ∧ v.make = { v.base with st:=v.start }) ∨ (v.odd % 32 = 5 ∧ v.make = { v.base with v:=v.value }) ∨ (v.odd % 32 = 6 ∧ v.make = { v.base with ck:=v.n }) ∨ (v.odd % 32 = 7 ∧ v.make = { v.base with ce:=v.n }) ∨ ((v.odd % 32 = 0 ∨ 8 ≤ v.odd % 32) ∧ v.make = v.base):=by
  unfold LM.make LM.turn
  by_cases h1 : v.odd % 32 = 1
  ·exact .inl ⟨h1,by rw [if_pos h1]⟩
  rw [if_neg h1]
  by_cases h2 : v.odd % 32 = 2
  ·exact .inr (.inl ⟨h2,by rw [if_pos h2]⟩)
  rw [if_neg h2]
  by_cases h3 : v.odd % 32 = 3
  ·exact .inr (.inr (.inl ⟨h3,by rw [if_pos h3]⟩))
  rw [if_neg h3]
  by_cases h4 : v.odd % 32 = 4
  ·exact .inr (.inr (.inr (.inl ⟨h4,by rw [if_pos h4]⟩)))
  rw [if_neg h4]
  by_cases h5 : v.odd % 32 = 5
  ·exact .inr (.inr (.inr (.inr (.inl ⟨h5,by rw [if_pos h5]⟩))))
  rw [if_neg h5]
  by_cases h6 : v.odd % 32 = 6
  ·exact .inr (.inr (.inr (.inr (.inr (.inl ⟨h6,by rw [if_pos h6]⟩)))))
  rw [if_neg h6]
  by_cases h7 : v.odd % 32 = 7
  ·exact .inr (.inr (.inr (.inr (.inr (.inr (.inl ⟨h7,by rw [if_pos h7]⟩))))))
  rw [if_neg h7]
  exact .inr (.inr (.inr (.inr (.inr (.inr (.inr ⟨by omega,rfl⟩))))))
 unfold LM.val
 generalize v.make = M at ho ⊢
 generalize v.base = b0 at hb ho
 unfold LM.k at hb
 obtain ⟨kind,who,n,start,take,right,value,odd⟩:=v
 simp only at hb ho ⊢
 obtain ⟨q,hq⟩ : ∃ q,IntKind.u64.wrap kind % 3 = q:=⟨_,rfl⟩
 have hq1 : (IntKind.u64.wrap kind).tmod 3 = q:=by rw [Int.tmod_eq_emod_of_nonneg (by rw [IntKind.wrap_u64]; omega)]; exact hq
 have hq3 : IntKind.i64.wrap q = q:=by rw [← hq]; exact IntWalk.i64_in _ (by omega)
 rw [hq] at hb
 clear hq
 have a63 : bits .and .i64 who 63 = who % 64:=and_63 who
 have a255 : bits .and .i64 start 255 = start % 256:=zIF start
 have a7fff : bits .and .i64 n 32767 = n % 32768:=zHU n
 have a31 : bits .and .i64 odd 31 = odd % 32:=and_31 odd
 have HBs:=zIo hb
 have HOd:=zIo ho
 clear hb ho
 have HB3:=zIo (zAA (zAA (zAA (Below.refl w.heap.size w) ((⟨kind,who,n,start,take,right,value,odd⟩ : LM).obj 43)) (.cells #[.int .i64 0,.int .i64 0,.int .i64 0,.int .i64 0,.int .u64 0,.int .i64 0,.int .i64 0] 50)) (.cells #[.int .i64 q,.int .i64 (who % 64),.int .i64 0,.int .i64 0,.int .u64 0,.int .i64 0,.int .i64 0] 50))
 go_enter Tryz.func8,Tryz.ntmps8
 go_upto_block 0 with fail
 have h3:=IsObj.made ((w.alloc ((⟨kind,who,n,start,take,right,value,odd⟩ : LM).obj 43)).alloc (.cells #[.int .i64 0,.int .i64 0,.int .i64 0,.int .i64 0,.int .u64 0,.int .i64 0,.int .i64 0] 50)) [.int .i64 q,.int .i64 (who % 64),.int .i64 0,.int .i64 0,.int .u64 0,.int .i64 0,.int .i64 0] 50
 have h2:=(IsObj.made (w.alloc ((⟨kind,who,n,start,take,right,value,odd⟩ : LM).obj 43)) [.int .i64 0,.int .i64 0,.int .i64 0,.int .i64 0,.int .u64 0,.int .i64 0,.int .i64 0] 50).later (zAA (Below.refl _ _) (.cells #[.int .i64 q,.int .i64 (who % 64),.int .i64 0,.int .i64 0,.int .u64 0,.int .i64 0,.int .i64 0] 50))
 have h1:=((IsObj.made w [.int .i64 kind,.int .i64 who,.int .i64 n,.int .i64 start,.bool take,.bool right,.int .u64 value,.int .i64 odd] 43).later (zAA (Below.refl _ _) (.cells #[.int .i64 0,.int .i64 0,.int .i64 0,.int .i64 0,.int .u64 0,.int .i64 0,.int .i64 0] 50))).later (zAA (Below.refl _ _) (.cells #[.int .i64 q,.int .i64 (who % 64),.int .i64 0,.int .i64 0,.int .u64 0,.int .i64 0,.int .i64 0] 50))
 simp only [World.size_alloc] at h3 h2
 have H1:=zIo h1
 have H2:=zIo h2
 have H3:=zIo h3
 clear h1 h2 h3
 generalize (((w.alloc (.cells #[.int .i64 kind,.int .i64 who,.int .i64 n,.int .i64 start,.bool take,.bool right,.int .u64 value,.int .i64 odd] 43)).alloc (.cells #[.int .i64 0,.int .i64 0,.int .i64 0,.int .i64 0,.int .u64 0,.int .i64 0,.int .i64 0] 50)).alloc (.cells #[.int .i64 q,.int .i64 (who % 64),.int .i64 0,.int .i64 0,.int .u64 0,.int .i64 0,.int .i64 0] 50)) = w3 at H1 H2 H3 HB3 ⊢
 go_cut [] (fun wx=>Hid (MkAt w wx ⟨kind,who,n,start,take,right,value,odd⟩ b0))
 case first =>
  have q0:=H3.out.at' 0 _ rfl
  have q1:=H3.out.at' 1 _ rfl
  have q2:=H3.out.at' 2 _ rfl
  have q3:=H3.out.at' 3 _ rfl
  have q4:=H3.out.at' 4 _ rfl
  have q5:=H3.out.at' 5 _ rfl
  have q6:=H3.out.at' 6 _ rfl
  have f0:=H3.out.fz 0
  have f1:=H3.out.fz 1
  have f2:=H3.out.fz 2
  have f3:=H3.out.fz 3
  have f4:=H3.out.fz 4
  have f5:=H3.out.fz 5
  have f6:=H3.out.fz 6
  have x2:=H1.out.at' 2 _ rfl
  have x3:=H1.out.at' 3 _ rfl
  have x4:=H1.out.at' 4 _ rfl
  have x5:=H1.out.at' 5 _ rfl
  have x6:=H1.out.at' 6 _ rfl
  have hl3:=H3.out.lt
  have hd : ∀ (j : Nat) (u : Value) (wx : World),MkBx w wx ⟨kind,who,n,start,take,right,value,odd⟩ → MkBx w (wx.setCell ⟨w.heap.size + 1 + 1,j,none⟩ u) ⟨kind,who,n,start,take,right,value,odd⟩:=fun j u wx h=>h.set j u
  have HD:=zIo hd
  have HX:=zIo (show MkBx w w3 ⟨kind,who,n,start,take,right,value,odd⟩ from ⟨HB3.out,H1.out,H2.out⟩)
  clear hd
  rcases HBs.out with ⟨rfl,rfl,rfl⟩ | ⟨rfl,rfl,rfl⟩ | ⟨rfl,rfl⟩ | ⟨rfl,rfl⟩
  ·cases right
   ·go_wp2_with fail
    go_meet
    exact zIo ⟨HD.out _ _ _ HX.out,H3.out.set 4 _⟩
   ·go_wp2_with fail
    go_meet
    exact zIo ⟨HD.out _ _ _ (HD.out _ _ _ HX.out),(H3.out.set 4 _).set 3 _⟩
  ·cases right
   ·go_wp2_with fail
    go_meet
    exact zIo ⟨(HD.out _ _ _ (HD.out _ _ _ (HD.out _ _ _ (HD.out _ _ _ (HD.out _ _ _ HX.out))))),(((((H3.out.set 4 _).set 2 _).set 3 _).set 4 _).set 5 _)⟩
   ·go_wp2_with fail
    go_meet
    exact zIo ⟨HD.out _ _ _ (HD.out _ _ _ (HD.out _ _ _ (HD.out _ _ _ (HD.out _ _ _ (HD.out _ _ _ HX.out))))),(((((H3.out.set 4 _).set 2 _).set 3 _).set 4 _).set 5 _).set 3 _⟩
  ·go_wp2_with fail
   go_meet
   exact zIo ⟨HX.out,H3.out⟩
  ·have hwn : IntKind.i64.wrap (1 + n % 32768) = 1 + n % 32768:=IntWalk.i64_in _ (by omega)
   go_wp2_with fail
   go_meet
   exact zIo ⟨HD.out _ _ _ (HD.out _ _ _ HX.out),(H3.out.set 1 _).set 6 _⟩
 case rest =>
  clear H1 H2 H3 HB3 HBs
  have HM:=hcut
  clear hcut
  have q0:=HM.out.obj.at' 0 _ rfl
  have q1:=HM.out.obj.at' 1 _ rfl
  have q2:=HM.out.obj.at' 2 _ rfl
  have q3:=HM.out.obj.at' 3 _ rfl
  have q4:=HM.out.obj.at' 4 _ rfl
  have q5:=HM.out.obj.at' 5 _ rfl
  have q6:=HM.out.obj.at' 6 _ rfl
  have f0:=HM.out.obj.fz 0
  have f1:=HM.out.obj.fz 1
  have f2:=HM.out.obj.fz 2
  have f3:=HM.out.obj.fz 3
  have f4:=HM.out.obj.fz 4
  have f5:=HM.out.obj.fz 5
  have f6:=HM.out.obj.fz 6
  have x0:=HM.out.bx.arg.at' 0 _ rfl
  have x1:=HM.out.bx.arg.at' 1 _ rfl
  have x2:=HM.out.bx.arg.at' 2 _ rfl
  have x3:=HM.out.bx.arg.at' 3 _ rfl
  have x6:=HM.out.bx.arg.at' 6 _ rfl
  have x7:=HM.out.bx.arg.at' 7 _ rfl
  have r0:=HM.out.bx.res.at' 0 _ rfl
  have r1:=HM.out.bx.res.at' 1 _ rfl
  have r2:=HM.out.bx.res.at' 2 _ rfl
  have r3:=HM.out.bx.res.at' 3 _ rfl
  have r4:=HM.out.bx.res.at' 4 _ rfl
  have r5:=HM.out.bx.res.at' 5 _ rfl
  have r6:=HM.out.bx.res.at' 6 _ rfl
  have g0:=HM.out.bx.res.fz 0
  have g1:=HM.out.bx.res.fz 1
  have g2:=HM.out.bx.res.fz 2
  have g3:=HM.out.bx.res.fz 3
  have g4:=HM.out.bx.res.fz 4
  have g5:=HM.out.bx.res.fz 5
  have g6:=HM.out.bx.res.fz 6
  rcases HOd.out with ⟨ho,rfl⟩ | ⟨ho,rfl⟩ | ⟨ho,rfl⟩ | ⟨ho,rfl⟩ | ⟨ho,rfl⟩ | ⟨ho,rfl⟩ | ⟨ho,rfl⟩ | ⟨ho,rfl⟩
  ·rw [ho] at a31
   go_wp2_with fail
   have hM2 : MkAt w (wc.setCell ⟨w.heap.size + 1 + 1,0,none⟩ (i64 kind)) ⟨kind,who,n,start,take,right,value,odd⟩ { b0 with k:=kind }:=⟨HM.out.bx.set 0 _,HM.out.obj.set 0 (i64 kind)⟩
   generalize wc.setCell ⟨w.heap.size + 1 + 1,0,none⟩ (i64 kind) = w5 at hM2 ⊢
   have hb9:=(zAG (p:=⟨w.heap.size + 1,6,none⟩) (zAG (p:=⟨w.heap.size + 1,5,none⟩) (zAG (p:=⟨w.heap.size + 1,4,none⟩) (zAG (p:=⟨w.heap.size + 1,3,none⟩) (zAG (p:=⟨w.heap.size + 1,2,none⟩) (zAG (p:=⟨w.heap.size + 1,1,none⟩) (zAG (p:=⟨w.heap.size + 1,0,none⟩) hM2.bx.below (Nat.le_succ _) (i64 kind)) (Nat.le_succ _) (i64 b0.who)) (Nat.le_succ _) (i64 b0.ck)) (Nat.le_succ _) (i64 b0.ce)) (Nat.le_succ _) (u64 b0.v)) (Nat.le_succ _) (i64 b0.st)) (Nat.le_succ _) (i64 b0.n))
   have ho9:=(((((((hM2.bx.res.set 0 (i64 kind)).set 1 (i64 b0.who)).set 2 (i64 b0.ck)).set 3 (i64 b0.ce)).set 4 (u64 b0.v)).set 5 (i64 b0.st)).set 6 (i64 b0.n))
   generalize (((((((w5.setCell ⟨w.heap.size + 1,0,none⟩ (i64 kind)).setCell ⟨w.heap.size + 1,1,none⟩ (i64 b0.who)).setCell ⟨w.heap.size + 1,2,none⟩ (i64 b0.ck)).setCell ⟨w.heap.size + 1,3,none⟩ (i64 b0.ce)).setCell ⟨w.heap.size + 1,4,none⟩ (u64 b0.v)).setCell ⟨w.heap.size + 1,5,none⟩ (i64 b0.st)).setCell ⟨w.heap.size + 1,6,none⟩ (i64 b0.n)) = w9 at hb9 ho9 ⊢
   have z0:=ho9.at' 0 _ rfl
   have z1:=ho9.at' 1 _ rfl
   have z2:=ho9.at' 2 _ rfl
   have z3:=ho9.at' 3 _ rfl
   have z4:=ho9.at' 4 _ rfl
   have z5:=ho9.at' 5 _ rfl
   have z6:=ho9.at' 6 _ rfl
   exact bodyPost_ret (v:=(⟨kind,b0.who,b0.ck,b0.ce,b0.v,b0.st,b0.n⟩ : CM).val) (by simp [results,Tryz.results8,go_sem,z0,z1,z2,z3,z4,z5,z6]) rfl ⟨rfl,hb9⟩
  ·rw [ho] at a31
   go_wp2_with fail
   have hM2 : MkAt w (wc.setCell ⟨w.heap.size + 1 + 1,1,none⟩ (i64 who)) ⟨kind,who,n,start,take,right,value,odd⟩ { b0 with who:=who }:=⟨HM.out.bx.set 1 _,HM.out.obj.set 1 (i64 who)⟩
   generalize wc.setCell ⟨w.heap.size + 1 + 1,1,none⟩ (i64 who) = w5 at hM2 ⊢
   have hb9:=(zAG (p:=⟨w.heap.size + 1,6,none⟩) (zAG (p:=⟨w.heap.size + 1,5,none⟩) (zAG (p:=⟨w.heap.size + 1,4,none⟩) (zAG (p:=⟨w.heap.size + 1,3,none⟩) (zAG (p:=⟨w.heap.size + 1,2,none⟩) (zAG (p:=⟨w.heap.size + 1,1,none⟩) (zAG (p:=⟨w.heap.size + 1,0,none⟩) hM2.bx.below (Nat.le_succ _) (i64 b0.k)) (Nat.le_succ _) (i64 who)) (Nat.le_succ _) (i64 b0.ck)) (Nat.le_succ _) (i64 b0.ce)) (Nat.le_succ _) (u64 b0.v)) (Nat.le_succ _) (i64 b0.st)) (Nat.le_succ _) (i64 b0.n))
   have ho9:=(((((((hM2.bx.res.set 0 (i64 b0.k)).set 1 (i64 who)).set 2 (i64 b0.ck)).set 3 (i64 b0.ce)).set 4 (u64 b0.v)).set 5 (i64 b0.st)).set 6 (i64 b0.n))
   generalize (((((((w5.setCell ⟨w.heap.size + 1,0,none⟩ (i64 b0.k)).setCell ⟨w.heap.size + 1,1,none⟩ (i64 who)).setCell ⟨w.heap.size + 1,2,none⟩ (i64 b0.ck)).setCell ⟨w.heap.size + 1,3,none⟩ (i64 b0.ce)).setCell ⟨w.heap.size + 1,4,none⟩ (u64 b0.v)).setCell ⟨w.heap.size + 1,5,none⟩ (i64 b0.st)).setCell ⟨w.heap.size + 1,6,none⟩ (i64 b0.n)) = w9 at hb9 ho9 ⊢
   have z0:=ho9.at' 0 _ rfl
   have z1:=ho9.at' 1 _ rfl
   have z2:=ho9.at' 2 _ rfl
   have z3:=ho9.at' 3 _ rfl
   have z4:=ho9.at' 4 _ rfl
   have z5:=ho9.at' 5 _ rfl
   have z6:=ho9.at' 6 _ rfl
   exact bodyPost_ret (v:=(⟨b0.k,who,b0.ck,b0.ce,b0.v,b0.st,b0.n⟩ : CM).val) (by simp [results,Tryz.results8,go_sem,z0,z1,z2,z3,z4,z5,z6]) rfl ⟨rfl,hb9⟩
  ·rw [ho] at a31
   go_wp2_with fail
   have hM2 : MkAt w (wc.setCell ⟨w.heap.size + 1 + 1,6,none⟩ (i64 n)) ⟨kind,who,n,start,take,right,value,odd⟩ { b0 with n:=n }:=⟨HM.out.bx.set 6 _,HM.out.obj.set 6 (i64 n)⟩
   generalize wc.setCell ⟨w.heap.size + 1 + 1,6,none⟩ (i64 n) = w5 at hM2 ⊢
   have hb9:=(zAG (p:=⟨w.heap.size + 1,6,none⟩) (zAG (p:=⟨w.heap.size + 1,5,none⟩) (zAG (p:=⟨w.heap.size + 1,4,none⟩) (zAG (p:=⟨w.heap.size + 1,3,none⟩) (zAG (p:=⟨w.heap.size + 1,2,none⟩) (zAG (p:=⟨w.heap.size + 1,1,none⟩) (zAG (p:=⟨w.heap.size + 1,0,none⟩) hM2.bx.below (Nat.le_succ _) (i64 b0.k)) (Nat.le_succ _) (i64 b0.who)) (Nat.le_succ _) (i64 b0.ck)) (Nat.le_succ _) (i64 b0.ce)) (Nat.le_succ _) (u64 b0.v)) (Nat.le_succ _) (i64 b0.st)) (Nat.le_succ _) (i64 n))
   have ho9:=(((((((hM2.bx.res.set 0 (i64 b0.k)).set 1 (i64 b0.who)).set 2 (i64 b0.ck)).set 3 (i64 b0.ce)).set 4 (u64 b0.v)).set 5 (i64 b0.st)).set 6 (i64 n))
   generalize (((((((w5.setCell ⟨w.heap.size + 1,0,none⟩ (i64 b0.k)).setCell ⟨w.heap.size + 1,1,none⟩ (i64 b0.who)).setCell ⟨w.heap.size + 1,2,none⟩ (i64 b0.ck)).setCell ⟨w.heap.size + 1,3,none⟩ (i64 b0.ce)).setCell ⟨w.heap.size + 1,4,none⟩ (u64 b0.v)).setCell ⟨w.heap.size + 1,5,none⟩ (i64 b0.st)).setCell ⟨w.heap.size + 1,6,none⟩ (i64 n)) = w9 at hb9 ho9 ⊢
   have z0:=ho9.at' 0 _ rfl
   have z1:=ho9.at' 1 _ rfl
   have z2:=ho9.at' 2 _ rfl
   have z3:=ho9.at' 3 _ rfl
   have z4:=ho9.at' 4 _ rfl
   have z5:=ho9.at' 5 _ rfl
   have z6:=ho9.at' 6 _ rfl
   exact bodyPost_ret (v:=(⟨b0.k,b0.who,b0.ck,b0.ce,b0.v,b0.st,n⟩ : CM).val) (by simp [results,Tryz.results8,go_sem,z0,z1,z2,z3,z4,z5,z6]) rfl ⟨rfl,hb9⟩
  ·rw [ho] at a31
   go_wp2_with fail
   have hM2 : MkAt w (wc.setCell ⟨w.heap.size + 1 + 1,5,none⟩ (i64 start)) ⟨kind,who,n,start,take,right,value,odd⟩ { b0 with st:=start }:=⟨HM.out.bx.set 5 _,HM.out.obj.set 5 (i64 start)⟩
   generalize wc.setCell ⟨w.heap.size + 1 + 1,5,none⟩ (i64 start) = w5 at hM2 ⊢
   have hb9:=(zAG (p:=⟨w.heap.size + 1,6,none⟩) (zAG (p:=⟨w.heap.size + 1,5,none⟩) (zAG (p:=⟨w.heap.size + 1,4,none⟩) (zAG (p:=⟨w.heap.size + 1,3,none⟩) (zAG (p:=⟨w.heap.size + 1,2,none⟩) (zAG (p:=⟨w.heap.size + 1,1,none⟩) (zAG (p:=⟨w.heap.size + 1,0,none⟩) hM2.bx.below (Nat.le_succ _) (i64 b0.k)) (Nat.le_succ _) (i64 b0.who)) (Nat.le_succ _) (i64 b0.ck)) (Nat.le_succ _) (i64 b0.ce)) (Nat.le_succ _) (u64 b0.v)) (Nat.le_succ _) (i64 start)) (Nat.le_succ _) (i64 b0.n))
   have ho9:=(((((((hM2.bx.res.set 0 (i64 b0.k)).set 1 (i64 b0.who)).set 2 (i64 b0.ck)).set 3 (i64 b0.ce)).set 4 (u64 b0.v)).set 5 (i64 start)).set 6 (i64 b0.n))
   generalize (((((((w5.setCell ⟨w.heap.size + 1,0,none⟩ (i64 b0.k)).setCell ⟨w.heap.size + 1,1,none⟩ (i64 b0.who)).setCell ⟨w.heap.size + 1,2,none⟩ (i64 b0.ck)).setCell ⟨w.heap.size + 1,3,none⟩ (i64 b0.ce)).setCell ⟨w.heap.size + 1,4,none⟩ (u64 b0.v)).setCell ⟨w.heap.size + 1,5,none⟩ (i64 start)).setCell ⟨w.heap.size + 1,6,none⟩ (i64 b0.n)) = w9 at hb9 ho9 ⊢
   have z0:=ho9.at' 0 _ rfl
   have z1:=ho9.at' 1 _ rfl
   have z2:=ho9.at' 2 _ rfl
   have z3:=ho9.at' 3 _ rfl
   have z4:=ho9.at' 4 _ rfl
   have z5:=ho9.at' 5 _ rfl
   have z6:=ho9.at' 6 _ rfl
   exact bodyPost_ret (v:=(⟨b0.k,b0.who,b0.ck,b0.ce,b0.v,start,b0.n⟩ : CM).val) (by simp [results,Tryz.results8,go_sem,z0,z1,z2,z3,z4,z5,z6]) rfl ⟨rfl,hb9⟩
  ·rw [ho] at a31
   go_wp2_with fail
   have hM2 : MkAt w (wc.setCell ⟨w.heap.size + 1 + 1,4,none⟩ (u64 value)) ⟨kind,who,n,start,take,right,value,odd⟩ { b0 with v:=value }:=⟨HM.out.bx.set 4 _,HM.out.obj.set 4 (u64 value)⟩
   generalize wc.setCell ⟨w.heap.size + 1 + 1,4,none⟩ (u64 value) = w5 at hM2 ⊢
   have hb9:=(zAG (p:=⟨w.heap.size + 1,6,none⟩) (zAG (p:=⟨w.heap.size + 1,5,none⟩) (zAG (p:=⟨w.heap.size + 1,4,none⟩) (zAG (p:=⟨w.heap.size + 1,3,none⟩) (zAG (p:=⟨w.heap.size + 1,2,none⟩) (zAG (p:=⟨w.heap.size + 1,1,none⟩) (zAG (p:=⟨w.heap.size + 1,0,none⟩) hM2.bx.below (Nat.le_succ _) (i64 b0.k)) (Nat.le_succ _) (i64 b0.who)) (Nat.le_succ _) (i64 b0.ck)) (Nat.le_succ _) (i64 b0.ce)) (Nat.le_succ _) (u64 value)) (Nat.le_succ _) (i64 b0.st)) (Nat.le_succ _) (i64 b0.n))
   have ho9:=(((((((hM2.bx.res.set 0 (i64 b0.k)).set 1 (i64 b0.who)).set 2 (i64 b0.ck)).set 3 (i64 b0.ce)).set 4 (u64 value)).set 5 (i64 b0.st)).set 6 (i64 b0.n))
   generalize (((((((w5.setCell ⟨w.heap.size + 1,0,none⟩ (i64 b0.k)).setCell ⟨w.heap.size + 1,1,none⟩ (i64 b0.who)).setCell ⟨w.heap.size + 1,2,none⟩ (i64 b0.ck)).setCell ⟨w.heap.size + 1,3,none⟩ (i64 b0.ce)).setCell ⟨w.heap.size + 1,4,none⟩ (u64 value)).setCell ⟨w.heap.size + 1,5,none⟩ (i64 b0.st)).setCell ⟨w.heap.size + 1,6,none⟩ (i64 b0.n)) = w9 at hb9 ho9 ⊢
   have z0:=ho9.at' 0 _ rfl
   have z1:=ho9.at' 1 _ rfl
   have z2:=ho9.at' 2 _ rfl
   have z3:=ho9.at' 3 _ rfl
   have z4:=ho9.at' 4 _ rfl
   have z5:=ho9.at' 5 _ rfl
   have z6:=ho9.at' 6 _ rfl
   exact bodyPost_ret (v:=(⟨b0.k,b0.who,b0.ck,b0.ce,value,b0.st,b0.n⟩ : CM).val) (by simp [results,Tryz.results8,go_sem,z0,z1,z2,z3,z4,z5,z6]) rfl ⟨rfl,hb9⟩
  ·rw [ho] at a31
   go_wp2_with fail
   have hM2 : MkAt w (wc.setCell ⟨w.heap.size + 1 + 1,2,none⟩ (i64 n)) ⟨kind,who,n,start,take,right,value,odd⟩ { b0 with ck:=n }:=⟨HM.out.bx.set 2 _,HM.out.obj.set 2 (i64 n)⟩
   generalize wc.setCell ⟨w.heap.size + 1 + 1,2,none⟩ (i64 n) = w5 at hM2 ⊢
   have hb9:=(zAG (p:=⟨w.heap.size + 1,6,none⟩) (zAG (p:=⟨w.heap.size + 1,5,none⟩) (zAG (p:=⟨w.heap.size + 1,4,none⟩) (zAG (p:=⟨w.heap.size + 1,3,none⟩) (zAG (p:=⟨w.heap.size + 1,2,none⟩) (zAG (p:=⟨w.heap.size + 1,1,none⟩) (zAG (p:=⟨w.heap.size + 1,0,none⟩) hM2.bx.below (Nat.le_succ _) (i64 b0.k)) (Nat.le_succ _) (i64 b0.who)) (Nat.le_succ _) (i64 n)) (Nat.le_succ _) (i64 b0.ce)) (Nat.le_succ _) (u64 b0.v)) (Nat.le_succ _) (i64 b0.st)) (Nat.le_succ _) (i64 b0.n))
   have ho9:=(((((((hM2.bx.res.set 0 (i64 b0.k)).set 1 (i64 b0.who)).set 2 (i64 n)).set 3 (i64 b0.ce)).set 4 (u64 b0.v)).set 5 (i64 b0.st)).set 6 (i64 b0.n))
   generalize (((((((w5.setCell ⟨w.heap.size + 1,0,none⟩ (i64 b0.k)).setCell ⟨w.heap.size + 1,1,none⟩ (i64 b0.who)).setCell ⟨w.heap.size + 1,2,none⟩ (i64 n)).setCell ⟨w.heap.size + 1,3,none⟩ (i64 b0.ce)).setCell ⟨w.heap.size + 1,4,none⟩ (u64 b0.v)).setCell ⟨w.heap.size + 1,5,none⟩ (i64 b0.st)).setCell ⟨w.heap.size + 1,6,none⟩ (i64 b0.n)) = w9 at hb9 ho9 ⊢
   have z0:=ho9.at' 0 _ rfl
   have z1:=ho9.at' 1 _ rfl
   have z2:=ho9.at' 2 _ rfl
   have z3:=ho9.at' 3 _ rfl
   have z4:=ho9.at' 4 _ rfl
   have z5:=ho9.at' 5 _ rfl
   have z6:=ho9.at' 6 _ rfl
   exact bodyPost_ret (v:=(⟨b0.k,b0.who,n,b0.ce,b0.v,b0.st,b0.n⟩ : CM).val) (by simp [results,Tryz.results8,go_sem,z0,z1,z2,z3,z4,z5,z6]) rfl ⟨rfl,hb9⟩
  ·rw [ho] at a31
   go_wp2_with fail
   have hM2 : MkAt w (wc.setCell ⟨w.heap.size + 1 + 1,3,none⟩ (i64 n)) ⟨kind,who,n,start,take,right,value,odd⟩ { b0 with ce:=n }:=⟨HM.out.bx.set 3 _,HM.out.obj.set 3 (i64 n)⟩
   generalize wc.setCell ⟨w.heap.size + 1 + 1,3,none⟩ (i64 n) = w5 at hM2 ⊢
   have hb9:=(zAG (p:=⟨w.heap.size + 1,6,none⟩) (zAG (p:=⟨w.heap.size + 1,5,none⟩) (zAG (p:=⟨w.heap.size + 1,4,none⟩) (zAG (p:=⟨w.heap.size + 1,3,none⟩) (zAG (p:=⟨w.heap.size + 1,2,none⟩) (zAG (p:=⟨w.heap.size + 1,1,none⟩) (zAG (p:=⟨w.heap.size + 1,0,none⟩) hM2.bx.below (Nat.le_succ _) (i64 b0.k)) (Nat.le_succ _) (i64 b0.who)) (Nat.le_succ _) (i64 b0.ck)) (Nat.le_succ _) (i64 n)) (Nat.le_succ _) (u64 b0.v)) (Nat.le_succ _) (i64 b0.st)) (Nat.le_succ _) (i64 b0.n))
   have ho9:=(((((((hM2.bx.res.set 0 (i64 b0.k)).set 1 (i64 b0.who)).set 2 (i64 b0.ck)).set 3 (i64 n)).set 4 (u64 b0.v)).set 5 (i64 b0.st)).set 6 (i64 b0.n))
   generalize (((((((w5.setCell ⟨w.heap.size + 1,0,none⟩ (i64 b0.k)).setCell ⟨w.heap.size + 1,1,none⟩ (i64 b0.who)).setCell ⟨w.heap.size + 1,2,none⟩ (i64 b0.ck)).setCell ⟨w.heap.size + 1,3,none⟩ (i64 n)).setCell ⟨w.heap.size + 1,4,none⟩ (u64 b0.v)).setCell ⟨w.heap.size + 1,5,none⟩ (i64 b0.st)).setCell ⟨w.heap.size + 1,6,none⟩ (i64 b0.n)) = w9 at hb9 ho9 ⊢
   have z0:=ho9.at' 0 _ rfl
   have z1:=ho9.at' 1 _ rfl
   have z2:=ho9.at' 2 _ rfl
   have z3:=ho9.at' 3 _ rfl
   have z4:=ho9.at' 4 _ rfl
   have z5:=ho9.at' 5 _ rfl
   have z6:=ho9.at' 6 _ rfl
   exact bodyPost_ret (v:=(⟨b0.k,b0.who,b0.ck,n,b0.v,b0.st,b0.n⟩ : CM).val) (by simp [results,Tryz.results8,go_sem,z0,z1,z2,z3,z4,z5,z6]) rfl ⟨rfl,hb9⟩
  ·obtain ⟨q5,hq5⟩ : ∃ q5,odd % 32 = q5:=⟨_,rfl⟩
   rw [hq5] at a31 ho
   have e1 : (q5 == 1) = false:=beq_false_of_ne (by omega)
   have e2 : (q5 == 2) = false:=beq_false_of_ne (by omega)
   have e3 : (q5 == 3) = false:=beq_false_of_ne (by omega)
   have e4 : (q5 == 4) = false:=beq_false_of_ne (by omega)
   have e5 : (q5 == 5) = false:=beq_false_of_ne (by omega)
   have e6 : (q5 == 6) = false:=beq_false_of_ne (by omega)
   have e7 : (q5 == 7) = false:=beq_false_of_ne (by omega)
   clear ho hq5
   go_wp2_with fail
   have hM2:=HM.out
   have hb9:=(zAG (p:=⟨w.heap.size + 1,6,none⟩) (zAG (p:=⟨w.heap.size + 1,5,none⟩) (zAG (p:=⟨w.heap.size + 1,4,none⟩) (zAG (p:=⟨w.heap.size + 1,3,none⟩) (zAG (p:=⟨w.heap.size + 1,2,none⟩) (zAG (p:=⟨w.heap.size + 1,1,none⟩) (zAG (p:=⟨w.heap.size + 1,0,none⟩) hM2.bx.below (Nat.le_succ _) (i64 M.k)) (Nat.le_succ _) (i64 M.who)) (Nat.le_succ _) (i64 M.ck)) (Nat.le_succ _) (i64 M.ce)) (Nat.le_succ _) (u64 M.v)) (Nat.le_succ _) (i64 M.st)) (Nat.le_succ _) (i64 M.n))
   have ho9:=(((((((hM2.bx.res.set 0 (i64 M.k)).set 1 (i64 M.who)).set 2 (i64 M.ck)).set 3 (i64 M.ce)).set 4 (u64 M.v)).set 5 (i64 M.st)).set 6 (i64 M.n))
   generalize (((((((wc.setCell ⟨w.heap.size + 1,0,none⟩ (i64 M.k)).setCell ⟨w.heap.size + 1,1,none⟩ (i64 M.who)).setCell ⟨w.heap.size + 1,2,none⟩ (i64 M.ck)).setCell ⟨w.heap.size + 1,3,none⟩ (i64 M.ce)).setCell ⟨w.heap.size + 1,4,none⟩ (u64 M.v)).setCell ⟨w.heap.size + 1,5,none⟩ (i64 M.st)).setCell ⟨w.heap.size + 1,6,none⟩ (i64 M.n)) = w9 at hb9 ho9 ⊢
   have z0:=ho9.at' 0 _ rfl
   have z1:=ho9.at' 1 _ rfl
   have z2:=ho9.at' 2 _ rfl
   have z3:=ho9.at' 3 _ rfl
   have z4:=ho9.at' 4 _ rfl
   have z5:=ho9.at' 5 _ rfl
   have z6:=ho9.at' 6 _ rfl
   exact bodyPost_ret (v:=M.val) (by simp [results,Tryz.results8,go_sem,z0,z1,z2,z3,z4,z5,z6]) rfl ⟨rfl,hb9⟩
end
end Go.Proofs.YtjlpidjilonhfaaGreat
