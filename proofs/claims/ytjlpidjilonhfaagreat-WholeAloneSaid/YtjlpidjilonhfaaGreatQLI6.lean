/- Contracts and plain lemmas that these laws need. No condition. -/
import Derived.Deep.DeepCutAuto
import Derived.Handy
import Derived.KernelRfl
import Derived.Test.YtjlpidjilonhfaaGreatProg
import Derived.Test.YtjlpidjilonhfaaGreatQLI1
import Derived.Test.YtjlpidjilonhfaaGreatQLI3
import Derived.Test.YtjlpidjilonhfaaGreatQLI5
namespace Go.Proofs.YtjlpidjilonhfaaGreat
set_option linter.unusedVariables false
set_option maxHeartbeats 8000000
set_option maxRecDepth 100000
section
open Go.RowKit
section
structure Pu where
 t : Int
 s : Int
 so : Int
 d : Int
 who : Int
 e : Int
 value : Int
 next : Int
 ph : Int
 cl : Cl
 tk : Tk
abbrev Pu.list (k : Pu) (b1 b2 : Nat) : List Value:=[i64 k.t,i64 k.s,i64 k.so,i64 k.d,i64 k.who,i64 k.e,u64 k.value,i64 k.next,pt b1,pt b2,i64 k.ph]
structure AtPu (w : World) (b b1 b2 : Nat) (k : Pu) : Prop where
 c0 : w.cell? ⟨b,0,none⟩ = some (i64 k.t)
 c1 : w.cell? ⟨b,1,none⟩ = some (i64 k.s)
 c2 : w.cell? ⟨b,2,none⟩ = some (i64 k.so)
 c3 : w.cell? ⟨b,3,none⟩ = some (i64 k.d)
 c4 : w.cell? ⟨b,4,none⟩ = some (i64 k.who)
 c5 : w.cell? ⟨b,5,none⟩ = some (i64 k.e)
 c6 : w.cell? ⟨b,6,none⟩ = some (u64 k.value)
 c7 : w.cell? ⟨b,7,none⟩ = some (i64 k.next)
 c8 : w.cell? ⟨b,8,none⟩ = some (pt b1)
 c9 : w.cell? ⟨b,9,none⟩ = some (pt b2)
 c10 : w.cell? ⟨b,10,none⟩ = some (i64 k.ph)
theorem IsObj.pu {w : World} {b b1 b2 : Nat} {k : Pu} (h : IsObj w b (k.list b1 b2)) : AtPu w b b1 b2 k :=
 ⟨h.at' 0 _ rfl,h.at' 1 _ rfl,h.at' 2 _ rfl,h.at' 3 _ rfl,h.at' 4 _ rfl,h.at' 5 _ rfl,h.at' 6 _ rfl,h.at' 7 _ rfl,h.at' 8 _ rfl,h.at' 9 _ rfl,h.at' 10 _ rfl⟩
structure IsPu (w : World) (b b1 b2 : Nat) (k : Pu) : Prop where
 obj : IsObj w b (k.list b1 b2)
 cl : IsObj w b1 k.cl.list
 tk : IsTk w b2 k.tk
 n1 : b ≠ b1
 n2 : b ≠ b2
 n3 : b1 ≠ b2
def PuB (b b1 b2 : Nat) (i : Nat) : Prop:=i = b ∨ i = b1 ∨ i = b2
theorem IsPu.keep {w w' : World} {b b1 b2 : Nat} {k : Pu} {T : Nat → Prop} (h : IsPu w b b1 b2 k) (e : Keep T w w') (h0 : ¬ T b) (h1 : ¬ T b1) (h2 : ¬ T b2) : IsPu w' b b1 b2 k :=
 ⟨h.obj.keep e h0,h.cl.keep e h1,h.tk.keep e h2,h.n1,h.n2,h.n3⟩
theorem IsPu.later {w w' : World} {b b1 b2 : Nat} {k : Pu} (h : IsPu w b b1 b2 k) (e : Below w.heap.size w w') : IsPu w' b b1 b2 k :=
 h.keep (T:=fun _=>False) (Keep.of_below e) (fun h=>h) (fun h=>h) (fun h=>h)
theorem IsPu.drew {w : World} {b b1 b2 : Nat} {k : Pu} (h : IsPu w b b1 b2 k) : IsPu w.drew b b1 b2 k:=⟨h.obj.drew,h.cl.drew,h.tk.drew,h.n1,h.n2,h.n3⟩
theorem IsPu.lt {w : World} {b b1 b2 : Nat} {k : Pu} (h : IsPu w b b1 b2 k) : ∀ i,PuB b b1 b2 i → i < w.heap.size:=by
 rintro i (rfl | rfl | rfl)
 ·exact h.obj.lt
 ·exact h.cl.lt
 ·exact h.tk.lt
theorem Does.wide {B B' : Nat → Prop} {base : Nat} {w w1 : World} {p c : Nat} {v v1 : Value} {C1 : List Int} {L1 : List Ev} (h : Does B base w w1 p c v v1 C1 L1) (hB : ∀ i,B i → B' i) (ha : ∀ i,B' i → ¬ Foot p c v i) (hlt : ∀ i,B' i → i < w.heap.size) : Does B' base w w1 p c v v1 C1 L1 :=
 ⟨h.mem,fun i hi hf=>by
  rcases hf with h1 | h1 | h1
  ·exact ha i hi (.inl h1)
  ·exact ha i hi (.inr (.inl h1))
  ·rcases h.moved i h1 with h2 | h2
   ·exact ha i hi (.inr (.inr h2))
   ·have:=hlt i hi
    omega,h.keep.mono (fun i hi=>hi.imp (hB i) id),h.moved,h.size⟩
theorem Does.aside {B T : Nat → Prop} {base : Nat} {w w1 w2 : World} {p c : Nat} {v v1 : Value} {C1 : List Int} {L1 : List Ev} (h : Does B base w w1 p c v v1 C1 L1) (k : Keep T w1 w2) (hf : ∀ i,Foot p c v1 i → ¬ T i) (hn : ∀ i,T i → w.heap.size ≤ i) : Does B base w w2 p c v v1 C1 L1 :=
 ⟨h.mem.keep k hf,h.apart,h.keep.then' k (fun i hi=>.inr (hn i hi)),h.moved,Nat.le_trans h.size k.size⟩
theorem Stepped.does {base : Nat} {w w' : World} {b p c : Nat} {v v' : Value} {k' : Tk} {C' : List Int} {L' : List Ev} (h : Stepped base w w' b p c v v' k' C' L') : Does (· = b) base w w' p c v v' C' L' :=
 ⟨h.mem,fun i hi=>hi ▸ h.apart,h.keep,h.moved,h.size⟩
def Pu.after (k : Pu) (r : Int) : Pu:=if r = 1 then { k with next:=k.next + 1 } else if r = 2 then { k with ph:=2 } else k
theorem Pu.after_cl (k : Pu) (r : Int) : (k.after r).cl = k.cl:=by
 unfold Pu.after
 split
 ·rfl
 ·split <;> rfl
theorem Pu.after_tk (k : Pu) (r : Int) : (k.after r).tk = k.tk:=by
 unfold Pu.after
 split
 ·rfl
 ·split <;> rfl
def Pu.pack (k : Pu) : Int:=1 + 4 * k.e + 8 * (k.cl.wg + 1) + 65536 * k.tk.lo + 1099511627776 * k.tk.hi
def Pu.step (k : Pu) (m : Int) (nb hz : Nat) (C : List Int) (now : Int) : Pu :=
 if k.ph ≠ 0 then k else if k.next = 0 then ({ k with cl:=k.cl.step m hz C } : Pu).after (k.cl.step m hz C).ph else if k.next = 1 then ({ k with tk:=(stp nb k.tk C now).1 } : Pu).after (stp nb k.tk C now).1.ph
 else if k.next = 2 then { k with next:=3 } else { k with ph:=1 }
def Pu.cells (k : Pu) (N nb : Nat) (C : List Int) (now : Int) : List Int :=
 if k.ph ≠ 0 then C else if k.next = 0 then C else if k.next = 1 then (stp nb k.tk C now).2.1 else if k.next = 2 then C.set (N + k.cl.slot.toNat) k.value else C.set k.cl.slot.toNat k.pack
def Pu.ev (k : Pu) (N nb hz : Nat) (C : List Int) (now : Int) : List Ev :=
 if k.ph ≠ 0 then [] else if k.next = 0 then k.cl.ev hz C else if k.next = 1 then (stp nb k.tk C now).2.2.toList
 else if k.next = 2 then [⟨k.who,1,(N + k.cl.slot.toNat : Nat),C.getD (N + k.cl.slot.toNat) 0,k.value,true⟩] else [⟨k.who,1,(k.cl.slot.toNat : Nat),C.getD k.cl.slot.toNat 0,k.pack,true⟩]
structure Pu.Ok (k : Pu) (N : Nat) (m : Int) (nb hz : Nat) (C : List Int) : Prop where
 cl : k.cl.Ok N m hz C
 tk : k.tk.Ok nb N C
 ct : k.cl.t = k.t
 cs : k.cl.s = k.s
 cw : k.cl.who = k.who
 tt : k.tk.t = k.t
 ts : k.tk.s = k.s
 tw : k.tk.who = k.who
 wg : k.cl.ph = 1 ∨ 1 ≤ k.cl.steps → 0 ≤ k.cl.wg ∧ k.cl.wg ≤ 8190
 st : k.tk.ph = 1 → 0 ≤ k.tk.lo ∧ k.tk.lo ≤ k.tk.hi ∧ k.tk.hi < 16777215
 e0 : 0 ≤ k.e
 e1 : k.e ≤ 1
 v0 : 0 ≤ k.value
 v1 : k.value ≤ 18446744073709551615
 at' : k.ph = 0 → (k.next = 0 ∧ k.cl.ph = 0 ∧ k.tk.ph = 0) ∨ (k.next = 1 ∧ k.cl.ph = 1 ∧ k.tk.ph = 0) ∨ (k.next = 2 ∧ k.cl.ph = 1 ∧ k.tk.ph = 1) ∨ (k.next = 3 ∧ k.cl.ph = 1 ∧ k.tk.ph = 1)
 tm : k.tk.ph = 0 → k.tk.steps < most k.t k.tk.so k.tk.d
def PuPost (base : Nat) (w : World) (b b1 b2 p c : Nat) (v : Value) (k' : Pu) (C' : List Int) (L' : List Ev) (e0 : Ending) (e : Ending) (w' : World) : Prop :=
 e = e0 ∧ ∃ v',Does (PuB b b1 b2) base w w' p c v v' C' L' ∧ IsPu w' b b1 b2 k'
theorem zDK (s e g lo hi e' lo' hi' : Int) (w : World) (h0 : 0 ≤ g) (h1 : g ≤ 8190) :
  Calls Tryz.prog 68 #[wd s e g lo hi,i64 e',st lo' hi'] w fun r w'=>r = .returned (wd 1 e' (g + 1) lo' hi') ∧ Below w.heap.size w w':=by
 have h:=zHI s e g lo hi e' lo' hi' w
 rw [show wrap64 (g + 1) = g + 1 by unfold wrap64; omega] at h
 exact h
theorem zGX (t s so d n i : Int) (j : Nat) (w : World) (h : Lay t s n) (i0 : 0 ≤ i) (i1 : i ≤ n) (hj : n + i = (j : Int)) :
  Calls Tryz.prog 65 #[cf t s so d,i64 i] w fun r w'=>r = .returned (i64 j) ∧ Below w.heap.size w w':=by
 rw [← hj]
 exact zCy t s so d n i w h i0 i1
theorem zHW (t s so d i : Int) (j : Nat) (w : World) (hj : i = (j : Int)) :
  Calls Tryz.prog 70 #[cf t s so d,i64 i] w fun r w'=>r = .returned (i64 j) ∧ Below w.heap.size w w':=by
 rw [← hj]
 exact zAZ t s so d i w
theorem zIR (s e g lo hi x : Int) (w : World) (h : 0 ≤ s ∧ s ≤ 2 ∧ 0 ≤ e ∧ e ≤ 1 ∧ 0 ≤ g ∧ g ≤ 8191 ∧ 0 ≤ lo ∧ lo ≤ 16777215 ∧ 0 ≤ hi ∧ hi ≤ 16777215) (hx : s + 4 * e + 8 * g + 65536 * lo + 1099511627776 * hi = x) :
  Calls Tryz.prog 71 #[wd s e g lo hi] w fun r w'=>r = .returned (u64 x) ∧ Below w.heap.size w w':=hx ▸ zB2 s e g lo hi w h
theorem zCN (w : World) (b b1 b2 : Nat) (k : Pu) (q : Int) (n0 : 0 ≤ k.next) (n1 : k.next ≤ 3) (hT : IsObj w b (k.list b1 b2)) :
  Calls Tryz.prog 61 #[pt b,i64 q] w fun r w'=>r = .returned (.tuple #[]) ∧ IsObj w' b ((k.after q).list b1 b2) ∧ Keep (· = b) w w':=by
 have HT:=zIo hT
 obtain ⟨c0,c1,c2,c3,c4,c5,c6,c7,c8,c9,c10⟩:=hT.pu
 have f7:=hT.fz 7
 have f10:=hT.fz 10
 have e1 : wrap64 (k.next + 1) = k.next + 1:=by unfold wrap64; omega
 clear hT
 unfold Pu.after
 by_cases h1 : q = 1
 ·have q1 : (q == 1) = true:=by simp [h1]
  rw [if_pos h1]
  clear h1
  go_enter Tryz.func61,Tryz.ntmps61
  go_wp2
  go_end0
  exact ⟨rfl,HT.out.set 7 (.int .i64 (k.next + 1)),(Keep.refl _ _).own 7 _⟩
 ·by_cases h2 : q = 2
  ·have q1 : (q == 1) = false:=by simp [h1]
   have q2 : (q == 2) = true:=by simp [h2]
   rw [if_neg h1,if_pos h2]
   clear h1 h2
   go_enter Tryz.func61,Tryz.ntmps61
   go_wp2
   go_end0
   exact ⟨rfl,HT.out.set 10 (.int .i64 2),(Keep.refl _ _).own 10 _⟩
  ·have q1 : (q == 1) = false:=by simp [h1]
   have q2 : (q == 2) = false:=by simp [h2]
   rw [if_neg h1,if_neg h2]
   clear h1 h2
   go_enter Tryz.func61,Tryz.ntmps61
   go_wp2
   go_end0
   exact ⟨rfl,HT.out,Keep.refl _ _⟩
section
variable (base : Nat) (w : World) (b b1 b2 p c : Nat) (v : Value) (C : List Int) (L : List Ev) (k : Pu) (N : Nat) (m : Int) (nb hz : Nat) (now : Int)
theorem zHq (hp : k.ph ≠ 0) (hT : IsPu w b b1 b2 k) (hM : IsMem base w p c v C L) (ha : ∀ i,PuB b b1 b2 i → ¬ Foot p c v i) (hb : base ≤ w.heap.size) :
  Calls Tryz.prog 50 #[pt b,pt p,i64 now] w (PuPost base w b b1 b2 p c v k C L (.returned (i64 k.ph))):=by
 have qp : (k.ph != 0) = true:=by simp [hp]
 have HS:=zIo (Does.refl (B:=PuB b b1 b2) hM ha hb)
 have HT:=zIo hT
 obtain ⟨c0,c1,c2,c3,c4,c5,c6,c7,c8,c9,c10⟩:=hT.obj.pu
 clear hT hM ha hp
 go_enter Tryz.func50,Tryz.ntmps50
 go_wp2
 go_ret
 exact ⟨rfl,_,HS.out,HT.out⟩
theorem zHb (k1 : Cl) (C1 : List Int) (L1 : List Ev) (hp : k.ph = 0) (hn : k.next = 0) (hT : IsPu w b b1 b2 k) (ha : ∀ i,PuB b b1 b2 i → ¬ Foot p c v i)
  (hin : Calls Tryz.prog 62 #[pt b1,pt p] w (ClPost base w b1 p c v k1 C1 L1 (.returned (i64 k1.ph)))) :
  Calls Tryz.prog 50 #[pt b,pt p,i64 now] w (PuPost base w b b1 b2 p c v (({ k with cl:=k1 } : Pu).after k1.ph) C1 L1 (.returned (i64 (({ k with cl:=k1 } : Pu).after k1.ph).ph))):=by
 have qp : (k.ph != 0) = false:=by simp [hp]
 have q0 : (k.next == 0) = true:=by simp [hn]
 have HIN:=zIo hin
 have HT:=zIo hT
 have HA:=zIo ha
 have Hn:=zIo hn
 obtain ⟨c0,c1,c2,c3,c4,c5,c6,c7,c8,c9,c10⟩:=hT.obj.pu
 clear hT ha hin hp hn
 go_enter Tryz.func50,Tryz.ntmps50
 go_wp2_with fail
 refine HIN.out.mono ?_
 rintro r w1 ⟨rfl,v1,hD,hO⟩
 have HP : Hid (IsPu w1 b b1 b2 { k with cl:=k1 }):=⟨HT.out.obj.keep hD.keep (fun h=>h.elim HT.out.n1 (HA.out b (.inl rfl))),hO,HT.out.tk.keep hD.keep (fun h=>h.elim (fun h=>HT.out.n3 h.symm) (HA.out b2 (.inr (.inr rfl)))),HT.out.n1,HT.out.n2,HT.out.n3⟩
 have HS:=zIo (hD.wide (B':=PuB b b1 b2) (fun i hi=>.inr (.inl hi)) HA.out HT.out.lt)
 clear hD hO c0 c1 c2 c3 c4 c5 c6 c7 c8 c9 c10
 go_wp2_with fail
 refine (zCN w1 b b1 b2 { k with cl:=k1 } k1.ph (by have:=Hn.out; show 0 ≤ k.next; omega) (by have:=Hn.out; show k.next ≤ 3; omega) HP.out.obj).mono ?_
 rintro r w2 ⟨rfl,hO2,hK2⟩
 obtain ⟨k2,hk2,hk2c,hk2t⟩ : ∃ k2 : Pu,({ k with cl:=k1 } : Pu).after k1.ph = k2 ∧ k2.cl = k1 ∧ k2.tk = k.tk:=⟨_,rfl,Pu.after_cl _ _,Pu.after_tk _ _⟩
 rw [hk2] at hO2 ⊢
 have HP2 : Hid (IsPu w2 b b1 b2 k2):=⟨hO2,hk2c ▸ HP.out.cl.keep hK2 (fun h=>HT.out.n1 h.symm),hk2t ▸ HP.out.tk.keep hK2 (fun h=>HT.out.n2 h.symm),HT.out.n1,HT.out.n2,HT.out.n3⟩
 replace HS:=zIo (HS.out.own (hK2.mono (fun i hi=>.inl hi)))
 have HK2:=zIo hk2
 clear hk2 hk2c hk2t hO2 hK2 HP
 obtain ⟨c0,c1,c2,c3,c4,c5,c6,c7,c8,c9,c10⟩:=HP2.out.obj.pu
 go_wp2
 go_ret
 rw [HK2.out]
 exact ⟨rfl,_,HS.out,HP2.out⟩
theorem zG7 (k1 : Tk) (C1 : List Int) (L1 : List Ev) (hp : k.ph = 0) (hn : k.next = 1) (hT : IsPu w b b1 b2 k) (ha : ∀ i,PuB b b1 b2 i → ¬ Foot p c v i)
  (hin : Calls Tryz.prog 63 #[pt b2,pt p,i64 now] w (TickPost base w b2 p c v k1 C1 L1 (.returned (i64 k1.ph)))) :
  Calls Tryz.prog 50 #[pt b,pt p,i64 now] w (PuPost base w b b1 b2 p c v (({ k with tk:=k1 } : Pu).after k1.ph) C1 L1 (.returned (i64 (({ k with tk:=k1 } : Pu).after k1.ph).ph))):=by
 have qp : (k.ph != 0) = false:=by simp [hp]
 have q0 : (k.next == 0) = false:=by simp [hn]
 have q1 : (k.next == 1) = true:=by simp [hn]
 have HIN:=zIo hin
 have HT:=zIo hT
 have HA:=zIo ha
 have Hn:=zIo hn
 obtain ⟨c0,c1,c2,c3,c4,c5,c6,c7,c8,c9,c10⟩:=hT.obj.pu
 clear hT ha hin hp hn
 go_enter Tryz.func50,Tryz.ntmps50
 go_wp2_with fail
 refine HIN.out.mono ?_
 rintro r w1 ⟨rfl,v1,hS⟩
 have hD:=hS.does
 have hO:=hS.tk
 have HP : Hid (IsPu w1 b b1 b2 { k with tk:=k1 }):=⟨HT.out.obj.keep hD.keep (fun h=>h.elim HT.out.n2 (HA.out b (.inl rfl))),HT.out.cl.keep hD.keep (fun h=>h.elim HT.out.n3 (HA.out b1 (.inr (.inl rfl)))),hO,HT.out.n1,HT.out.n2,HT.out.n3⟩
 have HS:=zIo (hD.wide (B':=PuB b b1 b2) (fun i hi=>.inr (.inr hi)) HA.out HT.out.lt)
 clear hD hO hS c0 c1 c2 c3 c4 c5 c6 c7 c8 c9 c10
 go_wp2_with fail
 refine (zCN w1 b b1 b2 { k with tk:=k1 } k1.ph (by have:=Hn.out; show 0 ≤ k.next; omega) (by have:=Hn.out; show k.next ≤ 3; omega) HP.out.obj).mono ?_
 rintro r w2 ⟨rfl,hO2,hK2⟩
 obtain ⟨k2,hk2,hk2c,hk2t⟩ : ∃ k2 : Pu,({ k with tk:=k1 } : Pu).after k1.ph = k2 ∧ k2.cl = k.cl ∧ k2.tk = k1:=⟨_,rfl,Pu.after_cl _ _,Pu.after_tk _ _⟩
 rw [hk2] at hO2 ⊢
 have HP2 : Hid (IsPu w2 b b1 b2 k2):=⟨hO2,hk2c ▸ HP.out.cl.keep hK2 (fun h=>HT.out.n1 h.symm),hk2t ▸ HP.out.tk.keep hK2 (fun h=>HT.out.n2 h.symm),HT.out.n1,HT.out.n2,HT.out.n3⟩
 replace HS:=zIo (HS.out.own (hK2.mono (fun i hi=>.inl hi)))
 have HK2:=zIo hk2
 clear hk2 hk2c hk2t hO2 hK2 HP
 obtain ⟨c0,c1,c2,c3,c4,c5,c6,c7,c8,c9,c10⟩:=HP2.out.obj.pu
 go_wp2
 go_ret
 rw [HK2.out]
 exact ⟨rfl,_,HS.out,HP2.out⟩
theorem zHG (hp : k.ph = 0) (hn : k.next = 2) (j : Nat) (hj : k.cl.slot = (j : Int)) (hl : Lay k.t k.s N) (hjN : (j : Int) < N) (x : Int) (hx : C[N + j]? = some x) (v0 : 0 ≤ k.value) (v1 : k.value ≤ 18446744073709551615) (hT : IsPu w b b1 b2 k) (hM : IsMem base w p c v C L) (ha : ∀ i,PuB b b1 b2 i → ¬ Foot p c v i) (hb : base ≤ w.heap.size) (hL : L.length < 1000000000) :
  Calls Tryz.prog 50 #[pt b,pt p,i64 now] w (PuPost base w b b1 b2 p c v { k with next:=3 } (C.set (N + j) k.value) (L ++ [⟨k.who,1,(N + j : Nat),x,k.value,true⟩]) (.returned (i64 0))):=by
 have qp : (k.ph != 0) = false:=by simp [hp]
 have q0 : (k.next == 0) = false:=by simp [hn]
 have q1 : (k.next == 1) = false:=by simp [hn]
 have q2 : (k.next == 2) = true:=by simp [hn]
 have hn1:=hl.n1; have hn2:=hl.n2
 have HS:=zIo (Does.refl (B:=PuB b b1 b2) hM ha hb)
 have HT:=zIo hT
 have HJ:=zIo hj
 have HX:=zIo hx
 have Hp:=zIo hp
 have hs0 : 0 ≤ k.cl.slot:=by omega
 have hs1 : k.cl.slot ≤ (N : Int):=by omega
 obtain ⟨c0,c1,c2,c3,c4,c5,c6,c7,c8,c9,c10⟩:=hT.obj.pu
 clear hT hM ha hp hn hj hx
 go_enter Tryz.func50,Tryz.ntmps50
 go_wp2_with fail
 clear c0 c1 c2 c3 c4 c5 c6 c7 c8 c9 c10
 refine zAD ((fun w'=>AtPu w' b b1 b2 k)) ((0,true) :: (1,true) :: (2,true) :: (3,true) :: (4,true) :: (5,true) :: (6,true) :: (7,true) :: (8,true) :: (9,true) :: (10,true) :: (11,true) :: (12,true) :: (15,true) :: (16,true) :: (17,true) :: (18,true) :: (13,false) :: (14,false) :: (19,false) :: []) (by kernel_rfl) (by kernel_rfl) (by kernel_rfl) (by decide) (fun _ _ _ _ _ h=>h) (HT.out.obj.drew.pu) ?_
 replace HT:=zIo HT.out.drew
 replace HS:=zIo HS.out.drew
 repeat ((first | (refine zAC (v := ?_) rfl ?_ ?_ ?_; rotate_left 1; rfl; focus (rintro wS ⟨c0,c1,c2,c3,c4,c5,c6,c7,c8,c9,c10⟩; go_simp <;> with_reducible rfl)) | (refine zAB rfl ?_ ?_; rfl)); try simp only [Act.put,qset])
 refine zAH rfl (fun K hK=>?_)
 go_simp
 go_at_call 66
 refine (zC2 _ b1 _ HT.out.cl).mono ?_
 rintro r w' ⟨rfl,rfl⟩
 (try go_wp2_with fail)
 refine hK.out _ _ (HT.out.obj.pu) (fun _=>?_)
 (try simp only [Act.put,qset])
 clear hK K
 repeat ((first | (refine zAC (v := ?_) rfl ?_ ?_ ?_; rotate_left 1; rfl; focus (rintro wS ⟨c0,c1,c2,c3,c4,c5,c6,c7,c8,c9,c10⟩; go_simp <;> with_reducible rfl)) | (refine zAB rfl ?_ ?_; rfl)); try simp only [Act.put,qset])
 refine zAH rfl (fun K hK=>?_)
 go_simp
 go_at_call 65
 refine (zGX _ _ _ _ N _ (N + j) _ hl hs0 hs1 (by have:=HJ.out; omega)).mono ?_
 rintro r w1 ⟨rfl,hb1⟩
 (try go_wp2_with fail)
 replace HT:=zIo (HT.out.later hb1)
 replace HS:=zIo (HS.out.later hb1)
 clear hb1
 refine hK.out _ _ (HT.out.obj.pu) (fun _=>?_)
 (try simp only [Act.put,qset])
 clear hK K
 repeat ((first | (refine zAC (v := ?_) rfl ?_ ?_ ?_; rotate_left 1; rfl; focus (rintro wS ⟨c0,c1,c2,c3,c4,c5,c6,c7,c8,c9,c10⟩; go_simp <;> with_reducible rfl)) | (refine zAB rfl ?_ ?_; rfl)); try simp only [Act.put,qset])
 refine zAH rfl (fun K hK=>?_)
 go_simp
 go_at_call 64
 refine (zBS base _ p c _ _ _ k.who (N + j) x k.value HS.out.mem HX.out HS.out.size hL v0 v1).mono ?_
 rintro r w2 ⟨rfl,v2,hT2⟩
 (try go_wp2_with fail)
 have hlt:=HT.out.lt
 replace HT:=zIo (HT.out.keep hT2.keep (HS.out.apart b (.inl rfl)) (HS.out.apart b1 (.inr (.inl rfl))) (HS.out.apart b2 (.inr (.inr rfl))))
 replace HS:=zIo (HS.out.cells hlt hT2)
 clear hT2 hlt
 refine hK.out _ _ (HT.out.obj.pu) (fun _=>?_)
 (try simp only [Act.put,qset])
 clear hK K
 refine zAJ ?_
 obtain ⟨c0,c1,c2,c3,c4,c5,c6,c7,c8,c9,c10⟩:=HT.out.obj.pu
 rw [Hp.out] at c10
 have f7:=HT.out.obj.fz 7
 go_wp2
 go_ret
 have hk:=(Keep.refl (· = b) w2).own 7 (.int .i64 3)
 refine ⟨rfl,_,HS.out.own (hk.mono (fun i hi=>.inl hi)),HT.out.obj.set 7 (.int .i64 3),HT.out.cl.keep hk (fun h=>HT.out.n1 h.symm),HT.out.tk.keep hk (fun h=>HT.out.n2 h.symm),HT.out.n1,HT.out.n2,HT.out.n3⟩
theorem zHN (hp : k.ph = 0) (hn : k.next = 3) (j : Nat) (hj : k.cl.slot = (j : Int)) (x : Int) (hx : C[j]? = some x) (hc : k.cl.ph = 1) (g0 : 0 ≤ k.cl.wg) (g1 : k.cl.wg ≤ 8190) (l0 : 0 ≤ k.tk.lo) (l1 : k.tk.lo ≤ k.tk.hi) (l2 : k.tk.hi < 16777215) (e0 : 0 ≤ k.e) (e1 : k.e ≤ 1) (hT : IsPu w b b1 b2 k) (hM : IsMem base w p c v C L) (ha : ∀ i,PuB b b1 b2 i → ¬ Foot p c v i) (hb : base ≤ w.heap.size) (hL : L.length < 1000000000) :
  Calls Tryz.prog 50 #[pt b,pt p,i64 now] w (PuPost base w b b1 b2 p c v { k with ph:=1 } (C.set j k.pack) (L ++ [⟨k.who,1,(j : Nat),x,k.pack,true⟩]) (.returned (i64 1))):=by
 have qp : (k.ph != 0) = false:=by simp [hp]
 have q0 : (k.next == 0) = false:=by simp [hn]
 have q1 : (k.next == 1) = false:=by simp [hn]
 have q2 : (k.next == 2) = false:=by simp [hn]
 have q3 : (k.next == 3) = true:=by simp [hn]
 have HS:=zIo (Does.refl (B:=PuB b b1 b2) hM ha hb)
 have HP:=zIo hT
 have HJ:=zIo hj
 have HX:=zIo hx
 have HCP:=zIo hc
 have Hpk : Hid (0 ≤ k.pack ∧ k.pack ≤ 18446744073709551615):=by show _ ∧ _; unfold Pu.pack; omega
 obtain ⟨c0,c1,c2,c3,c4,c5,c6,c7,c8,c9,c10⟩:=hT.obj.pu
 clear hT hM ha hp hn hj hx hc
 go_enter Tryz.func50,Tryz.ntmps50
 go_wp2_with fail
 go_cut [7] (fun s7 wx => ∃ bx,s7 = .pointer (some ⟨bx,0,none⟩) ∧ Hid (IsObj wx bx [i64 1,i64 k.e,i64 (k.cl.wg + 1),i64 k.tk.lo,i64 k.tk.hi]) ∧ Hid (∀ i,Foot p c v i → bx ≠ i) ∧ Hid (IsPu wx b b1 b2 k) ∧ Hid (Does (PuB b b1 b2) base w wx p c v v C L))
 case first =>
  refine zA4 (fun w'=>AtPu w' b b1 b2 k) (.take 0 (.take 1 (.take 2 (.take 3 (.take 5 (.take 6 (.take 7 (.take 8 (.take 9 (.take 10 (.take 11 (.take 12 (.two 4 (.two 13 (.two 14 (.one 15 (.one 16 .nil)) 15 (.one 14 (.one 16 .nil))) 15 (.one 13 (.one 14 (.one 16 .nil)))) 15 (.one 4 (.one 13 (.one 14 (.one 16 .nil))))))))))))))))) (by kernel_rfl) (by kernel_rfl) (by kernel_rfl) (by decide) (fun _ _ _ _ _ h=>h) HP.out.obj.drew.pu ?_
  repeat (refine zAg (v := ?_) rfl ?_ ?_ ?_; rotate_left 1; rfl; (focus (intro wS hSw; obtain ⟨c0,c1,c2,c3,c4,c5,c6,c7,c8,c9,c10⟩:=hSw; go_simp; first | done | with_reducible rfl)); (try simp only [Act.put,qset]))
  clear c0 c1 c2 c3 c4 c5 c6 c7 c8 c9 c10
  replace HP:=zIo HP.out.drew
  replace HS:=zIo HS.out.drew
  have HA:=zIo HP.out.obj.pu
  generalize w.drew = ww0 at HP HS HA ⊢
  refine ⟨?_, ?_⟩
  ·refine runT rfl (fun K hK=>?_)
   go_simp
   go_at_call 67
   refine (zC3 _ b1 _ HCP.out HP.out.cl).mono ?_
   rintro r ww1 ⟨rfl,hb⟩
   (try go_wp2_with fail)
   replace HP:=zIo (HP.out.later hb)
   replace HS:=zIo (HS.out.later hb)
   replace HA:=zIo HP.out.obj.pu
   clear hb
   refine hK.out _ _ HA.out (fun _=>?_)
   (try simp only [Act.put,qset])
   clear hK K
   try clear ww0
   refine ⟨?_, ?_⟩
   ·refine runT rfl (fun K hK=>?_)
    go_simp
    go_at_call 69
    refine (zBf _ b2 _ HP.out.tk).mono ?_
    rintro r ww2 ⟨rfl,hb⟩
    (try go_wp2_with fail)
    replace HP:=zIo (HP.out.later hb)
    replace HS:=zIo (HS.out.later hb)
    replace HA:=zIo HP.out.obj.pu
    clear hb
    refine hK.out _ _ HA.out (fun _=>?_)
    (try simp only [Act.put,qset])
    clear hK K
    try clear ww1
    refine ⟨?_, ?_⟩
    ·refine runT rfl (fun K hK=>?_)
     go_simp
     go_at_call 68
     refine (zDK _ _ _ _ _ _ _ _ _ g0 g1).mono ?_
     rintro r ww3 ⟨rfl,hb⟩
     (try go_wp2_with fail)
     replace HP:=zIo (HP.out.later hb)
     replace HS:=zIo (HS.out.later hb)
     replace HA:=zIo HP.out.obj.pu
     clear hb
     refine hK.out _ _ HA.out (fun _=>?_)
     (try simp only [Act.put,qset])
     clear hK K
     try clear ww2
     refine runT rfl (fun K hK=>?_)
     go_simp
     have hb:=zAA (Below.refl ww3.heap.size ww3) (.cells #[i64 0,i64 0,i64 0,i64 0,i64 0] 140)
     have Hx : Hid (IsObj (ww3.alloc (.cells #[i64 0,i64 0,i64 0,i64 0,i64 0] 140)) ww3.heap.size [i64 0,i64 0,i64 0,i64 0,i64 0]):=IsObj.made ww3 [i64 0,i64 0,i64 0,i64 0,i64 0] 140
     have Hn : Hid (ww3.heap.size ≠ b ∧ ww3.heap.size ≠ b1 ∧ ww3.heap.size ≠ b2 ∧ (∀ i,Foot p c v i → ww3.heap.size ≠ i) ∧ w.heap.size ≤ ww3.heap.size):=⟨fun e=>by have:=HP.out.obj.lt; omega,fun e=>by have:=HP.out.cl.lt; omega,fun e=>by have:=HP.out.tk.lt; omega,fun i hi e=>by have:=(HS.out.mem.foot i hi).2; omega,HS.out.keep.size⟩
     replace HP:=zIo (HP.out.later hb)
     replace HS:=zIo (HS.out.later hb)
     replace HA:=zIo HP.out.obj.pu
     clear hb
     generalize ww3.alloc (.cells #[i64 0,i64 0,i64 0,i64 0,i64 0] 140) = ww4 at HA HP HS Hx ⊢
     generalize ww3.heap.size = bx at Hx Hn ⊢
     refine hK.out _ _ HA.out (fun _=>?_)
     (try simp only [Act.put,qset])
     clear hK K
     try clear ww3
     refine runT rfl (fun K hK=>?_)
     have q0:=Hx.out.at' 0 _ rfl
     have q1:=Hx.out.at' 1 _ rfl
     have q2:=Hx.out.at' 2 _ rfl
     have q3:=Hx.out.at' 3 _ rfl
     have q4:=Hx.out.at' 4 _ rfl
     have f0:=Hx.out.fz 0
     have f1:=Hx.out.fz 1
     have f2:=Hx.out.fz 2
     have f3:=Hx.out.fz 3
     have f4:=Hx.out.fz 4
     go_simp
     clear q0 q1 q2 q3 q4 f0 f1 f2 f3 f4
     have hk5 : Keep (· = bx) ww4 (((((ww4.setCell ⟨bx,0,none⟩ (i64 1)).setCell ⟨bx,1,none⟩ (i64 k.e)).setCell ⟨bx,2,none⟩ (i64 (k.cl.wg + 1))).setCell ⟨bx,3,none⟩ (i64 k.tk.lo)).setCell ⟨bx,4,none⟩ (i64 k.tk.hi)):=(((((Keep.refl _ _).own 0 _).own 1 _).own 2 _).own 3 _).own 4 _
     replace Hx : Hid (IsObj (((((ww4.setCell ⟨bx,0,none⟩ (i64 1)).setCell ⟨bx,1,none⟩ (i64 k.e)).setCell ⟨bx,2,none⟩ (i64 (k.cl.wg + 1))).setCell ⟨bx,3,none⟩ (i64 k.tk.lo)).setCell ⟨bx,4,none⟩ (i64 k.tk.hi)) bx [i64 1,i64 k.e,i64 (k.cl.wg + 1),i64 k.tk.lo,i64 k.tk.hi]):=((((Hx.out.set 0 (i64 1)).set 1 (i64 k.e)).set 2 (i64 (k.cl.wg + 1))).set 3 (i64 k.tk.lo)).set 4 (i64 k.tk.hi)
     generalize ((((ww4.setCell ⟨bx,0,none⟩ (i64 1)).setCell ⟨bx,1,none⟩ (i64 k.e)).setCell ⟨bx,2,none⟩ (i64 (k.cl.wg + 1))).setCell ⟨bx,3,none⟩ (i64 k.tk.lo)).setCell ⟨bx,4,none⟩ (i64 k.tk.hi) = wz at hk5 Hx ⊢
     replace HP:=zIo (HP.out.keep hk5 (fun h=>Hn.out.1 h.symm) (fun h=>Hn.out.2.1 h.symm) (fun h=>Hn.out.2.2.1 h.symm))
     replace HS:=zIo (HS.out.aside hk5 (fun i hi e=>Hn.out.2.2.2.1 i hi e.symm) (fun q h=>h ▸ Hn.out.2.2.2.2))
     replace HA:=zIo HP.out.obj.pu
     refine hK.out _ _ HA.out (fun _=>?_)
     (try simp only [Act.put,qset])
     clear hK K hk5
     refine zAO ?_
     go_wp2_with fail
     go_meet
     exact ⟨bx,rfl,Hx,zIo Hn.out.2.2.2.1,HP,HS⟩
    ·refine runT rfl (fun K hK=>?_)
     go_simp
     have hb:=zAA (Below.refl ww2.heap.size ww2) (.cells #[i64 0,i64 0,i64 0,i64 0,i64 0] 140)
     have Hx : Hid (IsObj (ww2.alloc (.cells #[i64 0,i64 0,i64 0,i64 0,i64 0] 140)) ww2.heap.size [i64 0,i64 0,i64 0,i64 0,i64 0]):=IsObj.made ww2 [i64 0,i64 0,i64 0,i64 0,i64 0] 140
     have Hn : Hid (ww2.heap.size ≠ b ∧ ww2.heap.size ≠ b1 ∧ ww2.heap.size ≠ b2 ∧ (∀ i,Foot p c v i → ww2.heap.size ≠ i) ∧ w.heap.size ≤ ww2.heap.size):=⟨fun e=>by have:=HP.out.obj.lt; omega,fun e=>by have:=HP.out.cl.lt; omega,fun e=>by have:=HP.out.tk.lt; omega,fun i hi e=>by have:=(HS.out.mem.foot i hi).2; omega,HS.out.keep.size⟩
     replace HP:=zIo (HP.out.later hb)
     replace HS:=zIo (HS.out.later hb)
     replace HA:=zIo HP.out.obj.pu
     clear hb
     generalize ww2.alloc (.cells #[i64 0,i64 0,i64 0,i64 0,i64 0] 140) = ww3 at HA HP HS Hx ⊢
     generalize ww2.heap.size = bx at Hx Hn ⊢
     refine hK.out _ _ HA.out (fun _=>?_)
     (try simp only [Act.put,qset])
     clear hK K
     try clear ww2
     refine runT rfl (fun K hK=>?_)
     go_simp
     go_at_call 68
     refine (zDK _ _ _ _ _ _ _ _ _ g0 g1).mono ?_
     rintro r ww4 ⟨rfl,hb⟩
     (try go_wp2_with fail)
     replace Hx:=zIo (Hx.out.later hb)
     replace HP:=zIo (HP.out.later hb)
     replace HS:=zIo (HS.out.later hb)
     replace HA:=zIo HP.out.obj.pu
     clear hb
     refine hK.out _ _ HA.out (fun _=>?_)
     (try simp only [Act.put,qset])
     clear hK K
     try clear ww3
     refine runT rfl (fun K hK=>?_)
     have q0:=Hx.out.at' 0 _ rfl
     have q1:=Hx.out.at' 1 _ rfl
     have q2:=Hx.out.at' 2 _ rfl
     have q3:=Hx.out.at' 3 _ rfl
     have q4:=Hx.out.at' 4 _ rfl
     have f0:=Hx.out.fz 0
     have f1:=Hx.out.fz 1
     have f2:=Hx.out.fz 2
     have f3:=Hx.out.fz 3
     have f4:=Hx.out.fz 4
     go_simp
     clear q0 q1 q2 q3 q4 f0 f1 f2 f3 f4
     have hk5 : Keep (· = bx) ww4 (((((ww4.setCell ⟨bx,0,none⟩ (i64 1)).setCell ⟨bx,1,none⟩ (i64 k.e)).setCell ⟨bx,2,none⟩ (i64 (k.cl.wg + 1))).setCell ⟨bx,3,none⟩ (i64 k.tk.lo)).setCell ⟨bx,4,none⟩ (i64 k.tk.hi)):=(((((Keep.refl _ _).own 0 _).own 1 _).own 2 _).own 3 _).own 4 _
     replace Hx : Hid (IsObj (((((ww4.setCell ⟨bx,0,none⟩ (i64 1)).setCell ⟨bx,1,none⟩ (i64 k.e)).setCell ⟨bx,2,none⟩ (i64 (k.cl.wg + 1))).setCell ⟨bx,3,none⟩ (i64 k.tk.lo)).setCell ⟨bx,4,none⟩ (i64 k.tk.hi)) bx [i64 1,i64 k.e,i64 (k.cl.wg + 1),i64 k.tk.lo,i64 k.tk.hi]):=((((Hx.out.set 0 (i64 1)).set 1 (i64 k.e)).set 2 (i64 (k.cl.wg + 1))).set 3 (i64 k.tk.lo)).set 4 (i64 k.tk.hi)
     generalize ((((ww4.setCell ⟨bx,0,none⟩ (i64 1)).setCell ⟨bx,1,none⟩ (i64 k.e)).setCell ⟨bx,2,none⟩ (i64 (k.cl.wg + 1))).setCell ⟨bx,3,none⟩ (i64 k.tk.lo)).setCell ⟨bx,4,none⟩ (i64 k.tk.hi) = wz at hk5 Hx ⊢
     replace HP:=zIo (HP.out.keep hk5 (fun h=>Hn.out.1 h.symm) (fun h=>Hn.out.2.1 h.symm) (fun h=>Hn.out.2.2.1 h.symm))
     replace HS:=zIo (HS.out.aside hk5 (fun i hi e=>Hn.out.2.2.2.1 i hi e.symm) (fun q h=>h ▸ Hn.out.2.2.2.2))
     replace HA:=zIo HP.out.obj.pu
     refine hK.out _ _ HA.out (fun _=>?_)
     (try simp only [Act.put,qset])
     clear hK K hk5
     refine zAO ?_
     go_wp2_with fail
     go_meet
     exact ⟨bx,rfl,Hx,zIo Hn.out.2.2.2.1,HP,HS⟩
   ·refine runT rfl (fun K hK=>?_)
    go_simp
    have hb:=zAA (Below.refl ww1.heap.size ww1) (.cells #[i64 0,i64 0,i64 0,i64 0,i64 0] 140)
    have Hx : Hid (IsObj (ww1.alloc (.cells #[i64 0,i64 0,i64 0,i64 0,i64 0] 140)) ww1.heap.size [i64 0,i64 0,i64 0,i64 0,i64 0]):=IsObj.made ww1 [i64 0,i64 0,i64 0,i64 0,i64 0] 140
    have Hn : Hid (ww1.heap.size ≠ b ∧ ww1.heap.size ≠ b1 ∧ ww1.heap.size ≠ b2 ∧ (∀ i,Foot p c v i → ww1.heap.size ≠ i) ∧ w.heap.size ≤ ww1.heap.size):=⟨fun e=>by have:=HP.out.obj.lt; omega,fun e=>by have:=HP.out.cl.lt; omega,fun e=>by have:=HP.out.tk.lt; omega,fun i hi e=>by have:=(HS.out.mem.foot i hi).2; omega,HS.out.keep.size⟩
    replace HP:=zIo (HP.out.later hb)
    replace HS:=zIo (HS.out.later hb)
    replace HA:=zIo HP.out.obj.pu
    clear hb
    generalize ww1.alloc (.cells #[i64 0,i64 0,i64 0,i64 0,i64 0] 140) = ww2 at HA HP HS Hx ⊢
    generalize ww1.heap.size = bx at Hx Hn ⊢
    refine hK.out _ _ HA.out (fun _=>?_)
    (try simp only [Act.put,qset])
    clear hK K
    try clear ww1
    refine runT rfl (fun K hK=>?_)
    go_simp
    go_at_call 69
    refine (zBf _ b2 _ HP.out.tk).mono ?_
    rintro r ww3 ⟨rfl,hb⟩
    (try go_wp2_with fail)
    replace Hx:=zIo (Hx.out.later hb)
    replace HP:=zIo (HP.out.later hb)
    replace HS:=zIo (HS.out.later hb)
    replace HA:=zIo HP.out.obj.pu
    clear hb
    refine hK.out _ _ HA.out (fun _=>?_)
    (try simp only [Act.put,qset])
    clear hK K
    try clear ww2
    refine runT rfl (fun K hK=>?_)
    go_simp
    go_at_call 68
    refine (zDK _ _ _ _ _ _ _ _ _ g0 g1).mono ?_
    rintro r ww4 ⟨rfl,hb⟩
    (try go_wp2_with fail)
    replace Hx:=zIo (Hx.out.later hb)
    replace HP:=zIo (HP.out.later hb)
    replace HS:=zIo (HS.out.later hb)
    replace HA:=zIo HP.out.obj.pu
    clear hb
    refine hK.out _ _ HA.out (fun _=>?_)
    (try simp only [Act.put,qset])
    clear hK K
    try clear ww3
    refine runT rfl (fun K hK=>?_)
    have q0:=Hx.out.at' 0 _ rfl
    have q1:=Hx.out.at' 1 _ rfl
    have q2:=Hx.out.at' 2 _ rfl
    have q3:=Hx.out.at' 3 _ rfl
    have q4:=Hx.out.at' 4 _ rfl
    have f0:=Hx.out.fz 0
    have f1:=Hx.out.fz 1
    have f2:=Hx.out.fz 2
    have f3:=Hx.out.fz 3
    have f4:=Hx.out.fz 4
    go_simp
    clear q0 q1 q2 q3 q4 f0 f1 f2 f3 f4
    have hk5 : Keep (· = bx) ww4 (((((ww4.setCell ⟨bx,0,none⟩ (i64 1)).setCell ⟨bx,1,none⟩ (i64 k.e)).setCell ⟨bx,2,none⟩ (i64 (k.cl.wg + 1))).setCell ⟨bx,3,none⟩ (i64 k.tk.lo)).setCell ⟨bx,4,none⟩ (i64 k.tk.hi)):=(((((Keep.refl _ _).own 0 _).own 1 _).own 2 _).own 3 _).own 4 _
    replace Hx : Hid (IsObj (((((ww4.setCell ⟨bx,0,none⟩ (i64 1)).setCell ⟨bx,1,none⟩ (i64 k.e)).setCell ⟨bx,2,none⟩ (i64 (k.cl.wg + 1))).setCell ⟨bx,3,none⟩ (i64 k.tk.lo)).setCell ⟨bx,4,none⟩ (i64 k.tk.hi)) bx [i64 1,i64 k.e,i64 (k.cl.wg + 1),i64 k.tk.lo,i64 k.tk.hi]):=((((Hx.out.set 0 (i64 1)).set 1 (i64 k.e)).set 2 (i64 (k.cl.wg + 1))).set 3 (i64 k.tk.lo)).set 4 (i64 k.tk.hi)
    generalize ((((ww4.setCell ⟨bx,0,none⟩ (i64 1)).setCell ⟨bx,1,none⟩ (i64 k.e)).setCell ⟨bx,2,none⟩ (i64 (k.cl.wg + 1))).setCell ⟨bx,3,none⟩ (i64 k.tk.lo)).setCell ⟨bx,4,none⟩ (i64 k.tk.hi) = wz at hk5 Hx ⊢
    replace HP:=zIo (HP.out.keep hk5 (fun h=>Hn.out.1 h.symm) (fun h=>Hn.out.2.1 h.symm) (fun h=>Hn.out.2.2.1 h.symm))
    replace HS:=zIo (HS.out.aside hk5 (fun i hi e=>Hn.out.2.2.2.1 i hi e.symm) (fun q h=>h ▸ Hn.out.2.2.2.2))
    replace HA:=zIo HP.out.obj.pu
    refine hK.out _ _ HA.out (fun _=>?_)
    (try simp only [Act.put,qset])
    clear hK K hk5
    refine zAO ?_
    go_wp2_with fail
    go_meet
    exact ⟨bx,rfl,Hx,zIo Hn.out.2.2.2.1,HP,HS⟩
  ·refine runT rfl (fun K hK=>?_)
   go_simp
   have hb:=zAA (Below.refl ww0.heap.size ww0) (.cells #[i64 0,i64 0,i64 0,i64 0,i64 0] 140)
   have Hx : Hid (IsObj (ww0.alloc (.cells #[i64 0,i64 0,i64 0,i64 0,i64 0] 140)) ww0.heap.size [i64 0,i64 0,i64 0,i64 0,i64 0]):=IsObj.made ww0 [i64 0,i64 0,i64 0,i64 0,i64 0] 140
   have Hn : Hid (ww0.heap.size ≠ b ∧ ww0.heap.size ≠ b1 ∧ ww0.heap.size ≠ b2 ∧ (∀ i,Foot p c v i → ww0.heap.size ≠ i) ∧ w.heap.size ≤ ww0.heap.size):=⟨fun e=>by have:=HP.out.obj.lt; omega,fun e=>by have:=HP.out.cl.lt; omega,fun e=>by have:=HP.out.tk.lt; omega,fun i hi e=>by have:=(HS.out.mem.foot i hi).2; omega,HS.out.keep.size⟩
   replace HP:=zIo (HP.out.later hb)
   replace HS:=zIo (HS.out.later hb)
   replace HA:=zIo HP.out.obj.pu
   clear hb
   generalize ww0.alloc (.cells #[i64 0,i64 0,i64 0,i64 0,i64 0] 140) = ww1 at HA HP HS Hx ⊢
   generalize ww0.heap.size = bx at Hx Hn ⊢
   refine hK.out _ _ HA.out (fun _=>?_)
   (try simp only [Act.put,qset])
   clear hK K
   try clear ww0
   refine runT rfl (fun K hK=>?_)
   go_simp
   go_at_call 67
   refine (zC3 _ b1 _ HCP.out HP.out.cl).mono ?_
   rintro r ww2 ⟨rfl,hb⟩
   (try go_wp2_with fail)
   replace Hx:=zIo (Hx.out.later hb)
   replace HP:=zIo (HP.out.later hb)
   replace HS:=zIo (HS.out.later hb)
   replace HA:=zIo HP.out.obj.pu
   clear hb
   refine hK.out _ _ HA.out (fun _=>?_)
   (try simp only [Act.put,qset])
   clear hK K
   try clear ww1
   refine runT rfl (fun K hK=>?_)
   go_simp
   go_at_call 69
   refine (zBf _ b2 _ HP.out.tk).mono ?_
   rintro r ww3 ⟨rfl,hb⟩
   (try go_wp2_with fail)
   replace Hx:=zIo (Hx.out.later hb)
   replace HP:=zIo (HP.out.later hb)
   replace HS:=zIo (HS.out.later hb)
   replace HA:=zIo HP.out.obj.pu
   clear hb
   refine hK.out _ _ HA.out (fun _=>?_)
   (try simp only [Act.put,qset])
   clear hK K
   try clear ww2
   refine runT rfl (fun K hK=>?_)
   go_simp
   go_at_call 68
   refine (zDK _ _ _ _ _ _ _ _ _ g0 g1).mono ?_
   rintro r ww4 ⟨rfl,hb⟩
   (try go_wp2_with fail)
   replace Hx:=zIo (Hx.out.later hb)
   replace HP:=zIo (HP.out.later hb)
   replace HS:=zIo (HS.out.later hb)
   replace HA:=zIo HP.out.obj.pu
   clear hb
   refine hK.out _ _ HA.out (fun _=>?_)
   (try simp only [Act.put,qset])
   clear hK K
   try clear ww3
   refine runT rfl (fun K hK=>?_)
   have q0:=Hx.out.at' 0 _ rfl
   have q1:=Hx.out.at' 1 _ rfl
   have q2:=Hx.out.at' 2 _ rfl
   have q3:=Hx.out.at' 3 _ rfl
   have q4:=Hx.out.at' 4 _ rfl
   have f0:=Hx.out.fz 0
   have f1:=Hx.out.fz 1
   have f2:=Hx.out.fz 2
   have f3:=Hx.out.fz 3
   have f4:=Hx.out.fz 4
   go_simp
   clear q0 q1 q2 q3 q4 f0 f1 f2 f3 f4
   have hk5 : Keep (· = bx) ww4 (((((ww4.setCell ⟨bx,0,none⟩ (i64 1)).setCell ⟨bx,1,none⟩ (i64 k.e)).setCell ⟨bx,2,none⟩ (i64 (k.cl.wg + 1))).setCell ⟨bx,3,none⟩ (i64 k.tk.lo)).setCell ⟨bx,4,none⟩ (i64 k.tk.hi)):=(((((Keep.refl _ _).own 0 _).own 1 _).own 2 _).own 3 _).own 4 _
   replace Hx : Hid (IsObj (((((ww4.setCell ⟨bx,0,none⟩ (i64 1)).setCell ⟨bx,1,none⟩ (i64 k.e)).setCell ⟨bx,2,none⟩ (i64 (k.cl.wg + 1))).setCell ⟨bx,3,none⟩ (i64 k.tk.lo)).setCell ⟨bx,4,none⟩ (i64 k.tk.hi)) bx [i64 1,i64 k.e,i64 (k.cl.wg + 1),i64 k.tk.lo,i64 k.tk.hi]):=((((Hx.out.set 0 (i64 1)).set 1 (i64 k.e)).set 2 (i64 (k.cl.wg + 1))).set 3 (i64 k.tk.lo)).set 4 (i64 k.tk.hi)
   generalize ((((ww4.setCell ⟨bx,0,none⟩ (i64 1)).setCell ⟨bx,1,none⟩ (i64 k.e)).setCell ⟨bx,2,none⟩ (i64 (k.cl.wg + 1))).setCell ⟨bx,3,none⟩ (i64 k.tk.lo)).setCell ⟨bx,4,none⟩ (i64 k.tk.hi) = wz at hk5 Hx ⊢
   replace HP:=zIo (HP.out.keep hk5 (fun h=>Hn.out.1 h.symm) (fun h=>Hn.out.2.1 h.symm) (fun h=>Hn.out.2.2.1 h.symm))
   replace HS:=zIo (HS.out.aside hk5 (fun i hi e=>Hn.out.2.2.2.1 i hi e.symm) (fun q h=>h ▸ Hn.out.2.2.2.2))
   replace HA:=zIo HP.out.obj.pu
   refine hK.out _ _ HA.out (fun _=>?_)
   (try simp only [Act.put,qset])
   clear hK K hk5
   refine zAO ?_
   go_wp2_with fail
   go_meet
   exact ⟨bx,rfl,Hx,zIo Hn.out.2.2.2.1,HP,HS⟩
 case rest =>
  obtain ⟨bx,rfl,Hx,Hn,HP,HS⟩:=hcut
  clear c0 c1 c2 c3 c4 c5 c6 c7 c8 c9 c10
  go_wp2_with fail
  refine zAD ((fun w'=>AtPu w' b b1 b2 k ∧ w'.cell? ⟨bx,0,none⟩ = some (i64 1) ∧ w'.cell? ⟨bx,1,none⟩ = some (i64 k.e) ∧ w'.cell? ⟨bx,2,none⟩ = some (i64 (k.cl.wg + 1)) ∧ w'.cell? ⟨bx,3,none⟩ = some (i64 k.tk.lo) ∧ w'.cell? ⟨bx,4,none⟩ = some (i64 k.tk.hi))) ((0,true) :: (1,true) :: (2,true) :: (3,true) :: (4,true) :: (5,true) :: (6,true) :: (7,true) :: (8,true) :: (9,true) :: (10,true) :: (11,true) :: (12,true) :: (15,true) :: (13,false) :: (14,false) :: (16,false) :: (17,false) :: []) (by kernel_rfl) (by kernel_rfl) (by kernel_rfl) (by decide) (fun _ _ _ _ _ h=>h) (⟨HP.out.obj.drew.pu,Hx.out.drew.at' 0 _ rfl,Hx.out.drew.at' 1 _ rfl,Hx.out.drew.at' 2 _ rfl,Hx.out.drew.at' 3 _ rfl,Hx.out.drew.at' 4 _ rfl⟩) ?_
  replace HP:=zIo HP.out.drew
  replace HS:=zIo HS.out.drew
  replace Hx:=zIo Hx.out.drew
  repeat ((first | (refine zAC (v := ?_) rfl ?_ ?_ ?_; rotate_left 1; rfl; focus (rintro wS ⟨⟨c0,c1,c2,c3,c4,c5,c6,c7,c8,c9,c10⟩,d0,d1,d2,d3,d4⟩; go_simp <;> with_reducible rfl)) | (refine zAB rfl ?_ ?_; rfl)); try simp only [Act.put,qset])
  refine zAH rfl (fun K hK=>?_)
  go_simp
  go_at_call 66
  refine (zC2 _ b1 _ HP.out.cl).mono ?_
  rintro r w' ⟨rfl,rfl⟩
  (try go_wp2_with fail)
  refine hK.out _ _ (⟨HP.out.obj.pu,Hx.out.at' 0 _ rfl,Hx.out.at' 1 _ rfl,Hx.out.at' 2 _ rfl,Hx.out.at' 3 _ rfl,Hx.out.at' 4 _ rfl⟩) (fun _=>?_)
  (try simp only [Act.put,qset])
  clear hK K
  repeat ((first | (refine zAC (v := ?_) rfl ?_ ?_ ?_; rotate_left 1; rfl; focus (rintro wS ⟨⟨c0,c1,c2,c3,c4,c5,c6,c7,c8,c9,c10⟩,d0,d1,d2,d3,d4⟩; go_simp <;> with_reducible rfl)) | (refine zAB rfl ?_ ?_; rfl)); try simp only [Act.put,qset])
  refine zAH rfl (fun K hK=>?_)
  go_simp
  go_at_call 70
  refine (zHW _ _ _ _ _ j _ HJ.out).mono ?_
  rintro r w1 ⟨rfl,hb1⟩
  (try go_wp2_with fail)
  replace HP:=zIo (HP.out.later hb1)
  replace HS:=zIo (HS.out.later hb1)
  replace Hx:=zIo (Hx.out.later hb1)
  clear hb1
  refine hK.out _ _ (⟨HP.out.obj.pu,Hx.out.at' 0 _ rfl,Hx.out.at' 1 _ rfl,Hx.out.at' 2 _ rfl,Hx.out.at' 3 _ rfl,Hx.out.at' 4 _ rfl⟩) (fun _=>?_)
  (try simp only [Act.put,qset])
  clear hK K
  repeat ((first | (refine zAC (v := ?_) rfl ?_ ?_ ?_; rotate_left 1; rfl; focus (rintro wS ⟨⟨c0,c1,c2,c3,c4,c5,c6,c7,c8,c9,c10⟩,d0,d1,d2,d3,d4⟩; go_simp <;> with_reducible rfl)) | (refine zAB rfl ?_ ?_; rfl)); try simp only [Act.put,qset])
  refine zAH rfl (fun K hK=>?_)
  go_simp
  go_at_call 71
  refine (zIR 1 k.e (k.cl.wg + 1) k.tk.lo k.tk.hi k.pack _ (by omega) rfl).mono ?_
  rintro r w2 ⟨rfl,hb2⟩
  (try go_wp2_with fail)
  replace HP:=zIo (HP.out.later hb2)
  replace HS:=zIo (HS.out.later hb2)
  replace Hx:=zIo (Hx.out.later hb2)
  clear hb2
  refine hK.out _ _ (⟨HP.out.obj.pu,Hx.out.at' 0 _ rfl,Hx.out.at' 1 _ rfl,Hx.out.at' 2 _ rfl,Hx.out.at' 3 _ rfl,Hx.out.at' 4 _ rfl⟩) (fun _=>?_)
  (try simp only [Act.put,qset])
  clear hK K
  repeat ((first | (refine zAC (v := ?_) rfl ?_ ?_ ?_; rotate_left 1; rfl; focus (rintro wS ⟨⟨c0,c1,c2,c3,c4,c5,c6,c7,c8,c9,c10⟩,d0,d1,d2,d3,d4⟩; go_simp <;> with_reducible rfl)) | (refine zAB rfl ?_ ?_; rfl)); try simp only [Act.put,qset])
  refine zAH rfl (fun K hK=>?_)
  go_simp
  go_at_call 64
  refine (zBS base _ p c _ _ _ k.who j x k.pack HS.out.mem HX.out HS.out.size hL Hpk.out.1 Hpk.out.2).mono ?_
  rintro r w3 ⟨rfl,v3,hT3⟩
  (try go_wp2_with fail)
  have hlt:=HP.out.lt
  replace HP:=zIo (HP.out.keep hT3.keep (HS.out.apart b (.inl rfl)) (HS.out.apart b1 (.inr (.inl rfl))) (HS.out.apart b2 (.inr (.inr rfl))))
  replace Hx:=zIo (Hx.out.keep hT3.keep (fun h=>Hn.out _ h rfl))
  replace HS:=zIo (HS.out.cells hlt hT3)
  clear hT3 hlt
  refine hK.out _ _ (⟨HP.out.obj.pu,Hx.out.at' 0 _ rfl,Hx.out.at' 1 _ rfl,Hx.out.at' 2 _ rfl,Hx.out.at' 3 _ rfl,Hx.out.at' 4 _ rfl⟩) (fun _=>?_)
  (try simp only [Act.put,qset])
  clear hK K
  refine zAJ ?_
  obtain ⟨c0,c1,c2,c3,c4,c5,c6,c7,c8,c9,c10⟩:=HP.out.obj.pu
  have f10:=HP.out.obj.fz 10
  go_wp2
  go_ret
  have hk:=(Keep.refl (· = b) w3).own 10 (.int .i64 1)
  refine ⟨rfl,_,HS.out.own (hk.mono (fun i hi=>.inl hi)),HP.out.obj.set 10 (.int .i64 1),HP.out.cl.keep hk (fun h=>HP.out.n1 h.symm),HP.out.tk.keep hk (fun h=>HP.out.n2 h.symm),HP.out.n1,HP.out.n2,HP.out.n3⟩
end
end
section
section
variable (base : Nat) (w : World) (b b1 b2 p c : Nat) (v : Value) (C : List Int) (L : List Ev) (k : Pu) (N : Nat) (m : Int) (nb hz : Nat) (now : Int)
theorem zGA {C : List Int} {i : Nat} (h : i < C.length) : C[i]? = some (C.getD i 0):=by
 rw [List.getD_eq_getElem?_getD,List.getElem?_eq_getElem h]
 rfl
theorem zE7 (hk : k.Ok N m nb hz C) (n0 : 0 ≤ now) (hT : IsPu w b b1 b2 k) (hM : IsMem base w p c v C L) (ha : ∀ i,PuB b b1 b2 i → ¬ Foot p c v i) (hb : base ≤ w.heap.size) (hL : L.length < 1000000000) :
  Calls Tryz.prog 50 #[pt b,pt p,i64 now] w (PuPost base w b b1 b2 p c v (k.step m nb hz C now) (k.cells N nb C now) (L ++ k.ev N nb hz C now) (.returned (i64 (k.step m nb hz C now).ph))):=by
 have hl:=hk.cl.lay
 have h1:=hk.cl.len; have h2:=hk.cl.s0; have h3:=hk.cl.s1; have h4:=hk.cl.m0; have h5:=hk.cl.m1; have h6:=hl.n1; have h7:=hl.t1
 rw [hk.ct,hk.cs] at hl
 unfold Pu.step Pu.cells Pu.ev
 by_cases hp : k.ph ≠ 0
 ·rw [if_pos hp,if_pos hp,if_pos hp,List.append_nil]
  exact zHq base w b b1 b2 p c v C L k now hp hT hM ha hb
 ·rw [if_neg hp,if_neg hp,if_neg hp]
  have hp0 : k.ph = 0:=Classical.not_not.1 hp
  rcases hk.at' hp0 with ⟨h,hc,ht⟩ | ⟨h,hc,ht⟩ | ⟨h,hc,ht⟩ | ⟨h,hc,ht⟩
  ·rw [if_pos h,if_pos h,if_pos h]
   exact zHb base w b b1 b2 p c v k now _ _ _ hp0 h hT ha (zFJ base w b1 p c v C L k.cl N m hz hk.cl hT.cl hM (ha b1 (.inr (.inl rfl))) hb hL)
  ·have e0 : ¬ k.next = 0:=by omega
   rw [if_neg e0,if_neg e0,if_neg e0,if_pos h,if_pos h,if_pos h]
   exact zG7 base w b b1 b2 p c v k now _ _ _ hp0 h hT ha (zHH base w b2 p c v C L k.tk nb N now hk.tk n0 hT.tk hM (ha b2 (.inr (.inr rfl))) hb hL)
  ·have e0 : ¬ k.next = 0:=by omega
   have e1 : ¬ k.next = 1:=by omega
   rw [if_neg e0,if_neg e0,if_neg e0,if_neg e1,if_neg e1,if_neg e1,if_pos h,if_pos h,if_pos h]
   have:=zHG base w b b1 b2 p c v C L k N now hp0 h k.cl.slot.toNat (by omega) hl (by omega) _ (zGA (by omega)) hk.v0 hk.v1 hT hM ha hb hL
   rw [show i64 0 = i64 k.ph by rw [hp0]] at this
   exact this
  ·have e0 : ¬ k.next = 0:=by omega
   have e1 : ¬ k.next = 1:=by omega
   have e2 : ¬ k.next = 2:=by omega
   rw [if_neg e0,if_neg e0,if_neg e0,if_neg e1,if_neg e1,if_neg e1,if_neg e2,if_neg e2,if_neg e2]
   have hg:=hk.wg (.inl hc)
   have hs:=hk.st ht
   exact zHN base w b b1 b2 p c v C L k now hp0 h k.cl.slot.toNat (by omega) _ (zGA (by omega)) hc hg.1 hg.2 hs.1 hs.2.1 hs.2.2 hk.e0 hk.e1 hT hM ha hb hL
theorem zD9 (hT : IsObj w b (k.list b1 b2)) : Calls Tryz.prog 136 #[pt b] w fun r w'=>r = .returned (i64 k.ph) ∧ w = w':=by
 obtain ⟨c0,c1,c2,c3,c4,c5,c6,c7,c8,c9,c10⟩:=hT.pu
 go_enter Tryz.func136,Tryz.ntmps136
 go_wp2
 go_ret
 exact ⟨rfl,rfl⟩
theorem zEJ (hp : k.ph = 1) (hT : IsPu w b b1 b2 k) : Calls Tryz.prog 54 #[pt b] w fun r w'=>r = .returned (st k.tk.lo k.tk.hi) ∧ Below w.heap.size w w':=by
 obtain ⟨c0,c1,c2,c3,c4,c5,c6,c7,c8,c9,c10⟩:=hT.obj.pu
 have q : (k.ph != 1) = false:=by simp [hp]
 have HT:=zIo hT
 have hlt:=hT.obj.lt
 clear hp hT
 go_enter Tryz.func54,Tryz.ntmps54
 go_wp2_with fail
 have HK:=zIo (zBf (w.alloc (.cells #[i64 0,i64 0] 57)) b2 _ (HT.out.later (zAA (Below.refl _ _) _)).tk)
 refine HK.out.mono ?_
 rintro r w1 ⟨rfl,hb1⟩
 obtain ⟨hc,hf⟩:=bcell hb1
 go_wp2
 have k0 : (w1.cell? ⟨w.heap.size,0,none⟩).isSome = true:=by rw [hc _ _ (by simp)]; simp [go_sem]
 have k1 : (w1.cell? ⟨w.heap.size,1,none⟩).isSome = true:=by rw [hc _ _ (by simp)]; simp [go_sem]
 exact bodyPost_ret (v:=st k.tk.lo k.tk.hi) (by simp [results,Tryz.results54,go_sem,k0,k1]) rfl ⟨rfl,zAG (zAG (zAE (zAA (Below.refl _ _) _) hb1) (by simp) _) (by simp) _⟩
def pu0 (t s so d who e value m : Int) : Pu:=⟨t,s,so,d,who,e,value,0,0,cl0 t s so d who m,tk0 t s so d who⟩
theorem zGs (t s so d who e value : Int) (hl : Lay t s N) (w0 : 0 ≤ who) (w1 : who < t) (hm : who * s = m) (m0 : 0 ≤ m) (m1 : m + s ≤ N) :
  Calls Tryz.prog 38 #[cf t s so d,i64 who,i64 e,u64 value] w fun r w' => ∃ b b1 b2,r = .returned (pt b) ∧ IsPu w' b b1 b2 (pu0 t s so d who e value m) ∧ Below w.heap.size w w' ∧ ∀ i,PuB b b1 b2 i → w.heap.size ≤ i:=by
 have Hm:=zIo hm
 have HA : Hid (AtC (w.alloc (.cells #[.int .i64 t,.int .i64 s,.int .i64 so,.int .i64 d] 26)).drew w.heap.size t s so d):=(AtC.made w t s so d).later (n:=w.heap.size + 1) (Below.refl _ _).drew (by omega)
 have HB : Hid (Below w.heap.size w (w.alloc (.cells #[.int .i64 t,.int .i64 s,.int .i64 so,.int .i64 d] 26)).drew):=(zAA (Below.refl _ _) _).drew
 have hs0 : w.heap.size + 1 = (w.alloc (.cells #[.int .i64 t,.int .i64 s,.int .i64 so,.int .i64 d] 26)).heap.size:=by simp
 have Hs : Hid (w.heap.size + 1 = (w.alloc (.cells #[.int .i64 t,.int .i64 s,.int .i64 so,.int .i64 d] 26)).drew.heap.size):=hs0
 clear hs0
 clear hm
 go_enter Tryz.func38,Tryz.ntmps38
 go_wp2_with fail
 refine zAD ((fun w'=>AtC w' w.heap.size t s so d)) ((0,true) :: (1,true) :: (2,true) :: (3,true) :: (4,true) :: (5,true) :: (7,true) :: (8,true) :: (6,false) :: (9,false) :: (10,true) :: (11,false) :: (12,true) :: []) (by kernel_rfl) (by kernel_rfl) (by kernel_rfl) (by decide) (fun _ _ _ _ _ h=>h) (HA.out) ?_
 generalize (w.alloc (.cells #[.int .i64 t,.int .i64 s,.int .i64 so,.int .i64 d] 26)).drew = wA at HA HB Hs ⊢
 repeat ((first | (refine zAC (v := ?_) rfl ?_ ?_ ?_; rotate_left 1; rfl; focus (rintro wS ⟨c0,c1,c2,c3⟩; go_simp <;> with_reducible rfl)) | (refine zAB rfl ?_ ?_; rfl)); try simp only [Act.put,qset])
 refine zAH rfl (fun K hK=>?_)
 go_simp
 go_at_call 47
 refine (zFs _ N m t s so d who hl w0 w1 Hm.out m0 m1).mono ?_
 rintro r wB ⟨b1,rfl,hO1,hb1,hs1⟩
 (try go_wp2_with fail)
 replace HA:=zIo (HA.out.later hb1 (by have:=Hs.out; omega))
 have HO1:=zIo hO1
 have Hlt:=zIo hO1.lt
 have HB1:=zIo hb1
 have Hs1:=zIo hs1
 clear hO1 hb1 hs1
 refine hK.out _ _ (HA.out) (fun _=>?_)
 (try simp only [Act.put,qset])
 clear hK K
 repeat ((first | (refine zAC (v := ?_) rfl ?_ ?_ ?_; rotate_left 1; rfl; focus (rintro wS ⟨c0,c1,c2,c3⟩; go_simp <;> with_reducible rfl)) | (refine zAB rfl ?_ ?_; rfl)); try simp only [Act.put,qset])
 refine zAH rfl (fun K hK=>?_)
 go_simp
 go_at_call 48
 refine (zG9 _ t s so d who).mono ?_
 rintro r wC ⟨b2,rfl,hO2,hb2,hs2⟩
 (try go_wp2_with fail)
 replace HA:=zIo (HA.out.later hb2 (by have:=Hs.out; have:=HB1.out.size; omega))
 replace HO1:=zIo (HO1.out.later hb2)
 have HO2:=zIo hO2
 have HB2:=zIo hb2
 have Hs2:=zIo hs2
 clear hO2 hb2 hs2
 refine hK.out _ _ (HA.out) (fun _=>?_)
 (try simp only [Act.put,qset])
 clear hK K
 repeat ((first | (refine zAC (v := ?_) rfl ?_ ?_ ?_; rotate_left 1; rfl; focus (rintro wS ⟨c0,c1,c2,c3⟩; go_simp <;> with_reducible rfl)) | (refine zAB rfl ?_ ?_; rfl)); try simp only [Act.put,qset])
 refine zAH rfl (fun K hK=>?_)
 go_simp
 have hO3 : IsObj (wC.alloc (.cells #[.int .i64 t,.int .i64 s,.int .i64 so,.int .i64 d,.int .i64 who,.int .i64 e,.int .u64 value,.int .i64 0,pt b1,pt b2,.int .i64 0] 121)) wC.heap.size ((pu0 t s so d who e value m).list b1 b2):=IsObj.made wC ((pu0 t s so d who e value m).list b1 b2) 121
 have HO3:=zIo hO3
 have hb3:=zAA (Below.refl wC.heap.size wC) (.cells #[.int .i64 t,.int .i64 s,.int .i64 so,.int .i64 d,.int .i64 who,.int .i64 e,.int .u64 value,.int .i64 0,pt b1,pt b2,.int .i64 0] 121)
 have HB3:=zIo hb3
 replace HA:=zIo (HA.out.later hb3 (by have:=Hs.out; have:=HB1.out.size; have:=HB2.out.size; omega))
 clear hb3 hO3
 refine hK.out _ _ (HA.out) (fun _=>?_)
 (try simp only [Act.put,qset])
 clear hK K
 repeat ((first | (refine zAC (v := ?_) rfl ?_ ?_ ?_; rotate_left 1; rfl; focus (rintro wS ⟨c0,c1,c2,c3⟩; go_simp <;> with_reducible rfl)) | (refine zAB rfl ?_ ?_; rfl)); try simp only [Act.put,qset])
 refine zAJ ?_
 go_wp2
 go_ret
 have e0:=HB1.out.size
 have e1:=HB2.out.size
 have e2:=HO1.out.lt
 have e3:=HO2.out.lt
 have e4:=Hs.out
 have e5:=Hs1.out
 have e6:=Hs2.out
 have e7:=Hlt.out
 refine ⟨wC.heap.size,b1,b2,rfl,⟨HO3.out,HO1.out.later HB3.out,HO2.out.later HB3.out,by omega,by omega,by omega⟩,zAU HB.out (zAU HB1.out (zAU HB2.out HB3.out e1) e0) (by omega), ?_⟩
 rintro i (rfl | rfl | rfl)
 ·omega
 ·omega
 ·omega
end
end
section
theorem Tk.Ok.cells {k : Tk} {nb : Nat} {n : Int} {C C' : List Int} (h : k.Ok nb n C) (e : C'.length = C.length) : k.Ok nb n C' :=
 ⟨h.lay,h.nt,e.trans h.len,h.w0,h.w1,h.s0,h.s1,h.e0,h.e1,h.o0,h.o1,h.d0,h.d1,h.p0,h.p1,h.sw⟩
theorem Cl.Ok.cells {k : Cl} {n m : Int} {hz : Nat} {C C' : List Int} (h : k.Ok n m hz C) (e : C'.length = C.length) : k.Ok n m hz C' :=
 ⟨h.lay,h.hz,by rw [e]; exact h.len,h.w0,h.w1,h.hm,h.m0,h.m1,h.s0,h.s1,h.g0,h.g1⟩
def Cl.mu (k : Cl) (m : Int) : Int:=(k.slot - m) * (k.t + 1) + k.steps
theorem Cl.Ok.mu {k : Cl} {n m : Int} {hz : Nat} {C : List Int} (h : k.Ok n m hz C) : 0 ≤ k.mu m ∧ k.mu m < k.s * (k.t + 1):=by
 have h1:=h.s0; have h2:=h.s1; have h3:=h.g0; have h4:=h.g1; have h5:=h.lay.t1
 have h6:=Int.mul_le_mul_of_nonneg_right (show k.slot - m ≤ k.s - 1 by omega) (show 0 ≤ k.t + 1 by omega)
 have h7:=Int.mul_nonneg (show 0 ≤ k.slot - m by omega) (show 0 ≤ k.t + 1 by omega)
 rw [show (k.s - 1) * (k.t + 1) = k.s * (k.t + 1) - (k.t + 1) by rw [Int.sub_mul,Int.one_mul]] at h6
 unfold Cl.mu
 omega
theorem Cl.pass_ok {k : Cl} {n m : Int} {hz : Nat} {C : List Int} (h : k.Ok n m hz C) (hp : k.ph = 0) : (k.pass m).Ok n m hz C ∧ ((k.pass m).ph = 2 ∧ (k.pass m).steps = k.steps ∨ (k.pass m).ph = 0 ∧ (k.pass m).steps = 0 ∧ k.mu m + 1 ≤ (k.pass m).mu m):=by
 have h3:=h.g0; have h4:=h.g1; have h5:=h.lay.t1; have h6:=h.s0; have h7:=h.s1
 unfold Cl.pass
 split
 ·exact ⟨⟨h.lay,h.hz,h.len,h.w0,h.w1,h.hm,h.m0,h.m1,h.s0,h.s1,h.g0,h.g1⟩,.inl ⟨rfl,rfl⟩⟩
 ·refine ⟨⟨h.lay,h.hz,h.len,h.w0,h.w1,h.hm,h.m0,h.m1,by show m ≤ k.slot + 1; omega,by show k.slot + 1 < m + k.s; omega,Int.le_refl _,by show 0 ≤ k.t; omega⟩,.inr ⟨hp,rfl, ?_⟩⟩
  unfold Cl.mu
  show (k.slot - m) * (k.t + 1) + k.steps + 1 ≤ (k.slot + 1 - m) * (k.t + 1) + 0
  rw [show k.slot + 1 - m = (k.slot - m) + 1 by omega,Int.add_mul,Int.one_mul]
  omega
theorem Cl.step_ok {k : Cl} {n m : Int} {hz : Nat} {C : List Int} (h : k.Ok n m hz C) (hp : k.ph = 0) (hg : k.ph = 1 ∨ 1 ≤ k.steps → 0 ≤ k.wg ∧ k.wg ≤ 8190) :
  (k.step m hz C).Ok n m hz C ∧ ((k.step m hz C).ph = 1 ∨ 1 ≤ (k.step m hz C).steps → 0 ≤ (k.step m hz C).wg ∧ (k.step m hz C).wg ≤ 8190) ∧
   ((k.step m hz C).ph = 1 ∨ (k.step m hz C).ph = 2 ∨ (k.step m hz C).ph = 0 ∧ k.mu m + 1 ≤ (k.step m hz C).mu m):=by
 have h3:=h.g0; have h4:=h.g1; have h5:=h.lay.t1
 unfold Cl.step
 rw [if_pos hp]
 split
 ·rename_i hs
  generalize C.getD (k.cell hz) 0 = x
  have hw : (k.word x).Ok n m hz C:=⟨h.lay,h.hz,h.len,h.w0,h.w1,h.hm,h.m0,h.m1,h.s0,h.s1,h.g0,h.g1⟩
  have hpa:=Cl.pass_ok hw hp
  have hws : (k.word x).steps = 0:=hs
  have hmu : (k.word x).mu m = k.mu m:=rfl
  have hpass : ((k.word x).pass m).Ok n m hz C ∧ (((k.word x).pass m).ph = 1 ∨ 1 ≤ ((k.word x).pass m).steps → 0 ≤ ((k.word x).pass m).wg ∧ ((k.word x).pass m).wg ≤ 8190) ∧
    (((k.word x).pass m).ph = 1 ∨ ((k.word x).pass m).ph = 2 ∨ ((k.word x).pass m).ph = 0 ∧ k.mu m + 1 ≤ ((k.word x).pass m).mu m) :=
   ⟨hpa.1,fun hh=>by rcases hpa.2 with ⟨a,b⟩ | ⟨a,b,c⟩ <;> omega,by rcases hpa.2 with ⟨a,b⟩ | ⟨a,b,c⟩ <;> omega⟩
  unfold Cl.look
  split
  ·exact hpass
  ·rename_i hx
   split
   ·exact ⟨⟨h.lay,h.hz,h.len,h.w0,h.w1,h.hm,h.m0,h.m1,h.s0,h.s1,h.g0,h.g1⟩,fun _=>by show 0 ≤ x / 8 % 8192 ∧ x / 8 % 8192 ≤ 8190; omega,.inl rfl⟩
   ·split
    ·refine ⟨⟨h.lay,h.hz,h.len,h.w0,h.w1,h.hm,h.m0,h.m1,h.s0,h.s1,by show (0 : Int) ≤ 1; decide,by show 1 ≤ k.t; omega⟩,fun _=>by show 0 ≤ x / 8 % 8192 ∧ x / 8 % 8192 ≤ 8190; omega,.inr (.inr ⟨hp, ?_⟩)⟩
     show (k.slot - m) * (k.t + 1) + k.steps + 1 ≤ (k.slot - m) * (k.t + 1) + 1
     omega
    ·exact hpass
 ·rename_i hs
  generalize C.getD (k.cell hz) 0 = x
  have hpa:=Cl.pass_ok h hp
  have hw:=hg (.inr (by omega))
  unfold Cl.guard
  split
  ·refine ⟨hpa.1,fun _=>?_,by rcases hpa.2 with ⟨a,b⟩ | ⟨a,b,c⟩ <;> omega⟩
   have : (k.pass m).wg = k.wg:=by unfold Cl.pass; split <;> rfl
   omega
  ·split
   ·exact ⟨⟨h.lay,h.hz,h.len,h.w0,h.w1,h.hm,h.m0,h.m1,h.s0,h.s1,h.g0,h.g1⟩,fun _=>hw,.inl rfl⟩
   ·refine ⟨⟨h.lay,h.hz,h.len,h.w0,h.w1,h.hm,h.m0,h.m1,h.s0,h.s1,by show 0 ≤ k.steps + 1; omega,by show k.steps + 1 ≤ k.t; omega⟩,fun _=>hw,.inr (.inr ⟨hp, ?_⟩)⟩
    show (k.slot - m) * (k.t + 1) + k.steps + 1 ≤ (k.slot - m) * (k.t + 1) + (k.steps + 1)
    omega
theorem zHA {nb : Nat} {n : Int} {k : Tk} {C : List Int} {now : Int} (h : k.Ok nb n C) (hp : k.ph = 0) (hm : k.steps < most k.t k.so k.d) (n0 : 0 ≤ now) (hC : ∀ j,0 ≤ C.getD j 0) :
  ((stp nb k C now).1.ph = 1 → 0 ≤ (stp nb k C now).1.lo ∧ (stp nb k C now).1.lo ≤ (stp nb k C now).1.hi ∧ (stp nb k C now).1.hi < 16777215) ∧
   ((stp nb k C now).1.ph = 1 ∨ (stp nb k C now).1.ph = 2 ∨ (stp nb k C now).1.ph = 0 ∧ (stp nb k C now).1.steps = k.steps + 1 ∧ k.steps + 1 < most k.t k.so k.d):=by
 have he:=h.e0; have hs0:=h.s0; have ho0:=h.o0; have ho1:=h.o1
 have hf : ∀ (k : Tk) (x y : Int),((fin k x y).ph = 1 → 0 ≤ (fin k x y).lo ∧ (fin k x y).lo ≤ (fin k x y).hi ∧ (fin k x y).hi < 16777215) ∧ ((fin k x y).ph = 1 ∨ (fin k x y).ph = 2):=by
  intro k x y
  unfold fin
  split
  ·rename_i hh
   exact ⟨fun _=>hh,.inl rfl⟩
  ·exact ⟨fun h=>by simp at h,.inr rfl⟩
 have hf' : ∀ (k : Tk) (x y z q : Int),((fin k x y).ph = 1 → 0 ≤ (fin k x y).lo ∧ (fin k x y).lo ≤ (fin k x y).hi ∧ (fin k x y).hi < 16777215) ∧ ((fin k x y).ph = 1 ∨ (fin k x y).ph = 2 ∨ (fin k x y).ph = 0 ∧ (fin k x y).steps = z ∧ z < q) :=
  fun k x y z q=>⟨(hf k x y).1,(hf k x y).2.imp id .inl⟩
 unfold stp
 rw [if_pos hp]
 rcases (by omega : k.so = 0 ∨ k.so = 1 ∨ k.so = 2 ∨ k.so = 3 ∨ k.so = 4) with hs | hs | hs | hs | hs
 ·rw [if_pos hs]
  exact hf' _ _ _ _ _
 ·have hmm : most k.t k.so k.d = k.t + 1:=by rw [hs]; rfl
  rw [if_neg (by omega),if_pos hs]
  split
  ·exact ⟨fun h=>by have h' : k.ph = 1:=h; omega,.inr (.inr ⟨hp,rfl,by omega⟩)⟩
  ·split
   ·rename_i h1
    exact ⟨fun _=>⟨by show 0 ≤ k.seen + 1; omega,Int.le_refl _,h1⟩,.inl rfl⟩
   ·exact ⟨fun h=>by simp at h,.inr (.inl rfl)⟩
 ·have hmm : most k.t k.so k.d = 4:=by rw [hs]; rfl
  rw [if_neg (by omega),if_neg (by omega),if_pos hs]
  split
  ·by_cases hx : low (C.getD nb 0) = 16777215
   ·rw [if_pos hx]
    exact ⟨fun h=>by simp at h,.inr (.inl rfl)⟩
   ·rw [if_neg hx]
    exact ⟨fun h=>by simp at h,.inr (.inr ⟨rfl,rfl,by omega⟩)⟩
  ·split
   ·split
    ·exact ⟨fun h=>by have h' : k.ph = 1:=h; omega,.inr (.inr ⟨hp,rfl,by omega⟩)⟩
    ·exact hf' _ _ _ _ _
   ·split
    ·split
     ·exact hf' _ _ _ _ _
     ·exact ⟨fun h=>by have h' : k.ph = 1:=h; omega,.inr (.inr ⟨hp,rfl,by omega⟩)⟩
    ·exact hf' _ _ _ _ _
 ·rw [if_neg (by omega),if_neg (by omega),if_neg (by omega),if_pos (.inl hs)]
  exact hf' _ _ _ _ _
 ·have hmm : most k.t k.so k.d = k.d + 2:=by rw [hs]; rfl
  rw [if_neg (by omega),if_neg (by omega),if_neg (by omega)]
  split
  ·exact hf' _ _ _ _ _
  ·rename_i hh
   exact ⟨fun h=>by have h' : k.ph = 1:=h; omega,.inr (.inr ⟨hp,rfl,by omega⟩)⟩
structure Pu.Same (k k' : Pu) : Prop where
 t : k'.t = k.t
 s : k'.s = k.s
 so : k'.so = k.so
 d : k'.d = k.d
 who : k'.who = k.who
 e : k'.e = k.e
 value : k'.value = k.value
 tso : k'.tk.so = k.tk.so
 td : k'.tk.d = k.tk.d
theorem Pu.Same.refl (k : Pu) : k.Same k:=⟨rfl,rfl,rfl,rfl,rfl,rfl,rfl,rfl,rfl⟩
theorem Pu.Same.trans {a b c : Pu} (h : a.Same b) (k : b.Same c) : a.Same c:=⟨k.t.trans h.t,k.s.trans h.s,k.so.trans h.so,k.d.trans h.d,k.who.trans h.who,k.e.trans h.e,k.value.trans h.value,k.tso.trans h.tso,k.td.trans h.td⟩
theorem Pu.after_same (k : Pu) (r : Int) : k.Same (k.after r):=by
 unfold Pu.after
 split
 ·exact ⟨rfl,rfl,rfl,rfl,rfl,rfl,rfl,rfl,rfl⟩
 ·split <;> exact ⟨rfl,rfl,rfl,rfl,rfl,rfl,rfl,rfl,rfl⟩
theorem Pu.step_same (k : Pu) (m : Int) (nb hz : Nat) (C : List Int) (now : Int) : k.Same (k.step m nb hz C now):=by
 unfold Pu.step
 split
 ·exact .refl k
 ·split
  ·exact Pu.Same.trans (b := { k with cl:=k.cl.step m hz C }) ⟨rfl,rfl,rfl,rfl,rfl,rfl,rfl,rfl,rfl⟩ (Pu.after_same _ _)
  ·split
   ·have e:=zBi nb k.tk C now
    exact Pu.Same.trans (b := { k with tk:=(stp nb k.tk C now).1 }) ⟨rfl,rfl,rfl,rfl,rfl,rfl,rfl,e.2.2.1,e.2.2.2.1⟩ (Pu.after_same _ _)
   ·split <;> exact ⟨rfl,rfl,rfl,rfl,rfl,rfl,rfl,rfl,rfl⟩
def Pu.rem (k : Pu) (m : Int) : Int :=
 if k.ph ≠ 0 then 0 else if k.next = 0 then k.s * (k.t + 1) - k.cl.mu m + most k.t k.tk.so k.tk.d + 2 else if k.next = 1 then most k.t k.tk.so k.tk.d - k.tk.steps + 2 else if k.next = 2 then 2 else 1
theorem zDL {t so d : Int} (t1 : 1 ≤ t) (d0 : 0 ≤ d) : 1 ≤ most t so d:=by
 unfold most
 repeat' split
 all_goals omega
section
variable {k : Pu} {N : Nat} {m : Int} {nb hz : Nat} {C : List Int} {now : Int}
theorem Pu.rem_pos (h : k.Ok N m nb hz C) (hp : k.ph = 0) : 1 ≤ k.rem m:=by
 have h1:=h.cl.mu
 have h2:=h.cl.lay.t1
 have h3:=h.tk.d0
 rw [h.cs,h.ct] at h1
 have h4:=zDL (t:=k.t) (so:=k.tk.so) (d:=k.tk.d) (by rw [← h.ct]; exact h2) h3
 unfold Pu.rem
 rw [if_neg (by omega)]
 rcases h.at' hp with ⟨a,b,c⟩ | ⟨a,b,c⟩ | ⟨a,b,c⟩ | ⟨a,b,c⟩
 ·rw [if_pos a]
  omega
 ·have:=h.tm c
  rw [if_neg (by omega),if_pos a]
  omega
 ·rw [if_neg (by omega),if_neg (by omega),if_pos a]
  omega
 ·rw [if_neg (by omega),if_neg (by omega),if_neg (by omega)]
  omega
theorem Pu.after_1 (k : Pu) : k.after 1 = { k with next:=k.next + 1 }:=by unfold Pu.after; rw [if_pos rfl]
theorem Pu.after_2 (k : Pu) : k.after 2 = { k with ph:=2 }:=by unfold Pu.after; rw [if_neg (by decide),if_pos rfl]
theorem Pu.after_0 (k : Pu) : k.after 0 = k:=by unfold Pu.after; rw [if_neg (by decide),if_neg (by decide)]
theorem Pu.Ok.next_ (h : k.Ok N m nb hz C) (n0 : 0 ≤ now) (hn : ∀ j,0 ≤ C.getD j 0) : (k.step m nb hz C now).Ok N m nb hz C ∧ (k.ph = 0 → (k.step m nb hz C now).rem m + 1 ≤ k.rem m):=by
 by_cases hp : k.ph ≠ 0
 ·rw [show k.step m nb hz C now = k from if_pos hp]
  exact ⟨h,fun h=>absurd h hp⟩
 ·have hp0 : k.ph = 0:=Classical.not_not.1 hp
  obtain ⟨cl,tk,ct,cs,cw,tt,ts,tw,wg,st,e0,e1,v0,v1,at',tm⟩:=id h
  have hpos:=Pu.rem_pos h hp0
  have hmp:=zDL (t:=k.t) (so:=k.tk.so) (d:=k.tk.d) (by rw [← ct]; exact cl.lay.t1) tk.d0
  unfold Pu.step
  rw [if_neg hp]
  rcases at' hp0 with ⟨a,b,c⟩ | ⟨a,b,c⟩ | ⟨a,b,c⟩ | ⟨a,b,c⟩
  ·rw [if_pos a]
   obtain ⟨o1,o2,o3⟩:=Cl.step_ok cl b wg
   obtain ⟨s1,s2,s3⟩:=Cl.step_same k.cl m hz C
   have hrem : k.rem m = k.s * (k.t + 1) - k.cl.mu m + most k.t k.tk.so k.tk.d + 2:=by unfold Pu.rem; rw [if_neg hp,if_pos a]
   have hmu:=cl.mu
   rw [cs,ct] at hmu
   generalize hc1 : k.cl.step m hz C = c1 at o1 o2 o3 s1 s2 s3 ⊢
   rcases o3 with o3 | o3 | ⟨o3,o4⟩
   ·rw [o3,Pu.after_1]
    refine ⟨⟨o1,tk,s1.trans ct,s2.trans cs,s3.trans cw,tt,ts,tw,o2,st,e0,e1,v0,v1,fun _=>.inr (.inl ⟨by show k.next + 1 = 1; omega,o3,c⟩),tm⟩,fun _=>?_⟩
    rw [hrem]
    unfold Pu.rem
    rw [if_neg hp,if_neg (by show ¬ k.next + 1 = 0; omega),if_pos (by show k.next + 1 = 1; omega)]
    have:=tk.s0
    show most k.t k.tk.so k.tk.d - k.tk.steps + 2 + 1 ≤ _
    omega
   ·rw [o3,Pu.after_2]
    refine ⟨⟨o1,tk,s1.trans ct,s2.trans cs,s3.trans cw,tt,ts,tw,o2,st,e0,e1,v0,v1,fun h=>by simp at h,tm⟩,fun _=>?_⟩
    have : Pu.rem { k with cl:=c1,ph:=2 } m = 0:=by unfold Pu.rem; rw [if_pos (by simp)]
    rw [this]
    omega
   ·rw [o3,Pu.after_0]
    refine ⟨⟨o1,tk,s1.trans ct,s2.trans cs,s3.trans cw,tt,ts,tw,o2,st,e0,e1,v0,v1,fun _=>.inl ⟨a,o3,c⟩,tm⟩,fun _=>?_⟩
    rw [hrem]
    unfold Pu.rem
    rw [if_neg hp,if_pos a]
    show k.s * (k.t + 1) - c1.mu m + most k.t k.tk.so k.tk.d + 2 + 1 ≤ _
    omega
  ·rw [if_neg (by omega),if_pos a]
   have htm:=tm c
   rw [← tt] at htm
   obtain ⟨m1,m2⟩:=zHA tk c htm n0 hn
   have hsl : k.tk.steps < 1000000:=by
    have h1 : most k.tk.t k.tk.so k.tk.d ≤ 102:=by
     have h2:=tk.d1; have h3:=tk.lay.t2
     unfold most
     repeat' split
     all_goals omega
    omega
   have ok':=(stp_ok nb N k.tk C now tk hsl n0 hn).cells (zBi nb k.tk C now).2.2.2.2.2.symm
   obtain ⟨s1,s2,s3,s4,s5,s6⟩:=zBi nb k.tk C now
   have hrem : k.rem m = most k.t k.tk.so k.tk.d - k.tk.steps + 2:=by unfold Pu.rem; rw [if_neg hp,if_neg (by omega),if_pos a]
   clear htm
   have htm:=tm c
   rw [tt] at m2
   generalize hc1 : (stp nb k.tk C now).1 = c1 at m1 m2 ok' s1 s2 s3 s4 s5 ⊢
   rcases m2 with o3 | o3 | ⟨o3,o4,o5⟩
   ·rw [o3,Pu.after_1]
    refine ⟨⟨cl,ok',ct,cs,cw,s1.trans tt,s2.trans ts,s5.trans tw,wg,m1,e0,e1,v0,v1,fun _=>.inr (.inr (.inl ⟨by show k.next + 1 = 2; omega,b,o3⟩)),fun h=>by have h' : c1.ph = 0:=h; omega⟩,fun _=>?_⟩
    rw [hrem]
    unfold Pu.rem
    rw [if_neg hp,if_neg (by show ¬ k.next + 1 = 0; omega),if_neg (by show ¬ k.next + 1 = 1; omega),if_pos (by show k.next + 1 = 2; omega)]
    omega
   ·rw [o3,Pu.after_2]
    refine ⟨⟨cl,ok',ct,cs,cw,s1.trans tt,s2.trans ts,s5.trans tw,wg,m1,e0,e1,v0,v1,fun h=>by simp at h,fun h=>by have h' : c1.ph = 0:=h; omega⟩,fun _=>?_⟩
    have : Pu.rem { k with tk:=c1,ph:=2 } m = 0:=by unfold Pu.rem; rw [if_pos (by simp)]
    rw [this]
    omega
   ·rw [o3,Pu.after_0]
    refine ⟨⟨cl,ok',ct,cs,cw,s1.trans tt,s2.trans ts,s5.trans tw,wg,m1,e0,e1,v0,v1,fun _=>.inr (.inl ⟨a,b,o3⟩),fun _=>by show c1.steps < most k.t c1.so c1.d; rw [s3,s4]; omega⟩,fun _=>?_⟩
    rw [hrem]
    unfold Pu.rem
    rw [if_neg hp,if_neg (by show ¬ k.next = 0; omega),if_pos a]
    show most k.t c1.so c1.d - c1.steps + 2 + 1 ≤ _
    rw [s3,s4]
    omega
  ·rw [if_neg (by omega),if_neg (by omega),if_pos a]
   refine ⟨⟨cl,tk,ct,cs,cw,tt,ts,tw,wg,st,e0,e1,v0,v1,fun _=>.inr (.inr (.inr ⟨rfl,b,c⟩)),tm⟩,fun _=>?_⟩
   have h1 : k.rem m = 2:=by unfold Pu.rem; rw [if_neg hp,if_neg (by omega),if_neg (by omega),if_pos a]
   have h2 : Pu.rem { k with next:=3 } m = 1:=by unfold Pu.rem; rw [if_neg hp,if_neg (by simp),if_neg (by simp),if_neg (by simp)]
   omega
  ·rw [if_neg (by omega),if_neg (by omega),if_neg (by omega)]
   refine ⟨⟨cl,tk,ct,cs,cw,tt,ts,tw,wg,st,e0,e1,v0,v1,fun h=>by simp at h,tm⟩,fun _=>?_⟩
   have h2 : Pu.rem { k with ph:=1 } m = 0:=by unfold Pu.rem; rw [if_pos (by simp)]
   omega
theorem Pu.Ok.cells (h : k.Ok N m nb hz C) {C' : List Int} (e : C'.length = C.length) : k.Ok N m nb hz C' :=
 ⟨h.cl.cells e,h.tk.cells e,h.ct,h.cs,h.cw,h.tt,h.ts,h.tw,h.wg,h.st,h.e0,h.e1,h.v0,h.v1,h.at',h.tm⟩
theorem Pu.cells_len (k : Pu) (N nb : Nat) (C : List Int) (now : Int) : (k.cells N nb C now).length = C.length:=by
 unfold Pu.cells
 split
 ·rfl
 ·split
  ·rfl
  ·split
   ·exact (zBi nb k.tk C now).2.2.2.2.2
   ·split <;> simp
theorem Pu.ev_le (k : Pu) (N nb hz : Nat) (C : List Int) (now : Int) : (k.ev N nb hz C now).length ≤ 1:=by
 unfold Pu.ev
 split
 ·simp
 ·split
  ·exact Cl.ev_le _ _ _
  ·split
   ·cases (stp nb k.tk C now).2.2 <;> simp
   ·split <;> simp
end
theorem pu0_ok {t s so d who e value m : Int} {N nb hz : Nat} {C : List Int} (hl : Lay t s N) (h2 : (hz : Int) = 2 * N) (h3 : (nb : Int) = 2 * N + t) (h4 : C.length = nb + t.toNat) (w0 : 0 ≤ who) (w1 : who < t) (hm : who * s = m) (m0 : 0 ≤ m) (m1 : m + s ≤ N)
  (o0 : 0 ≤ so) (o1 : so ≤ 4) (d0 : 0 ≤ d) (d1 : d ≤ 100) (e0 : 0 ≤ e) (e1 : e ≤ 1) (v0 : 0 ≤ value) (v1 : value ≤ 18446744073709551615) : (pu0 t s so d who e value m).Ok N m nb hz C:=by
 have hs1:=hl.s1
 have ht1:=hl.t1
 exact ⟨⟨hl,h2,by show (C.length : Int) = 2 * N + 2 * t; omega,w0,w1,hm,m0,m1,Int.le_refl _,by show m < m + s; omega,Int.le_refl _,by show 0 ≤ t; omega⟩,
  ⟨hl,h3,h4,w0,w1,Int.le_refl _,by show (0 : Int) ≤ 1000000; decide,Int.le_refl _,by show (0 : Int) ≤ 16777215; decide,o0,o1,d0,d1,Int.le_refl _,by show (0 : Int) ≤ 2; decide,fun _ h=>absurd h (by show ¬ (1 : Int) ≤ 0; decide)⟩,
  rfl,rfl,rfl,rfl,rfl,rfl,fun h=>by rcases h with h | h <;> exact absurd h (by simp [pu0,cl0]),fun h=>by exact absurd h (by simp [pu0,tk0]),e0,e1,v0,v1,fun _=>.inl ⟨rfl,rfl,rfl⟩,fun _=>zDL ht1 d0⟩
theorem zIn (t s so d who e value m : Int) : (pu0 t s so d who e value m).rem m = s * (t + 1) + most t so d + 2:=by
 unfold Pu.rem
 rw [if_neg (by simp [pu0]),if_pos (show (pu0 t s so d who e value m).next = 0 from rfl)]
 show s * (t + 1) - ((m - m) * (t + 1) + 0) + most t so d + 2 = _
 rw [Int.sub_self,Int.zero_mul]
 omega
end
section
theorem zH2 (a0 a1 a2 a3 : Int) (w : World) :
  Calls Tryz.prog 15 #[.int .i64 a0,.int .i64 a1,.int .i64 a2,.int .i64 a3] w fun r w'=>r = .returned (cf (1 + a0 % 4) (1 + a1 % 4) (wrap64 ((IntKind.u64.wrap a2).tmod 5)) (a3 % 4)) ∧ Below w.heap.size w w':=by
 have e0 : bits .and .i64 a0 3 = a0 % 4:=by rw [show (3 : Int) = ((3 : Nat) : Int) from rfl,zBe a0 3 2 rfl (by decide)]; rfl
 have e1 : bits .and .i64 a1 3 = a1 % 4:=by rw [show (3 : Int) = ((3 : Nat) : Int) from rfl,zBe a1 3 2 rfl (by decide)]; rfl
 have e3 : bits .and .i64 a3 3 = a3 % 4:=by rw [show (3 : Int) = ((3 : Nat) : Int) from rfl,zBe a3 3 2 rfl (by decide)]; rfl
 go_enter Tryz.func15,Tryz.ntmps15
 go_wp2
 exact bodyPost_ret (v:=cf (1 + a0 % 4) (1 + a1 % 4) (wrap64 ((IntKind.u64.wrap a2).tmod 5)) (a3 % 4)) (by simp [results,Tryz.results15,go_sem]) rfl ⟨rfl,zAA (Below.refl _ _) _⟩
def tPu (base b b1 b2 : Nat) (k : Pu) : Thing:=⟨fun w=>IsPu w b b1 b2 k ∧ ∀ i,PuB b b1 b2 i → base ≤ i,PuB b b1 b2⟩
theorem tPu_ok (base b b1 b2 : Nat) (k : Pu) : (tPu base b b1 b2 k).Ok base :=
 ⟨fun _ _ _ h k hn=>⟨h.1.keep k (hn b (.inl rfl)) (hn b1 (.inr (.inl rfl))) (hn b2 (.inr (.inr rfl))),h.2⟩,fun _ i h hi=>⟨h.2 i hi,h.1.lt i hi⟩⟩
def PuHold (W w : World) (p c : Nat) (v : Value) (C : List Int) (L : List Ev) (b b1 b2 : Nat) (k : Pu) (R : List Thing) : Prop :=
 Hold W w (tMem W.heap.size p c v C L :: tPu W.heap.size b b1 b2 k :: R)
section
variable {W w w' : World} {p c b b1 b2 : Nat} {v v' : Value} {C C' : List Int} {L L' : List Ev} {k k' : Pu} {R : List Thing}
theorem PuHold.pu (h : PuHold W w p c v C L b b1 b2 k R) : IsPu w b b1 b2 k:=(Hold.has h 1 _ rfl).1
theorem PuHold.later (h : PuHold W w p c v C L b b1 b2 k R) (e : Below w.heap.size w w') : PuHold W w' p c v C L b b1 b2 k R:=Hold.later h e
end
end
end
section
open Go.RowKit
section
section
variable {k : Ge} {N hz : Nat} {C : List Int} {z z' : Int}
end
section
variable {W w w' : World} {p c p' c' b : Nat} {C C' : List Int} {L L' : List Ev} {k : Ge} {R : List Thing}
end
section
variable {W w w' : World} {p c p' c' b : Nat} {C C' : List Int} {L L' : List Ev} {k : Ge} {R : List Thing}
end
end
section
abbrev callV (kd e v s : Int) : Value:=.agg #[i64 kd,i64 e,u64 v,i64 s]
abbrev replyV (ok : Bool) (v lo hi : Int) : Value:=.agg #[.bool ok,u64 v,i64 lo,i64 hi]
abbrev taskL (kd e v s : Int) (wk : Value) : List Value:=[i64 kd,i64 e,u64 v,i64 s,wk]
abbrev wPut (b : Nat) : Value:=.iface 98 (pt b)
abbrev wGet (b : Nat) : Value:=.iface 100 (pt b)
theorem zC4 (W : World) (v : Value) : (Instr.typeAssert (.iface 98 v) 95 98 true).run Tryz.prog W = .ok (.tuple #[v,.bool true]) W:=by kernel_rfl
theorem zE1 (W : World) (v : Value) : (Instr.typeAssert (.iface 98 v) 95 100 true).run Tryz.prog W = .ok (.tuple #[.pointer none,.bool false]) W:=by kernel_rfl
theorem zCt (W : World) (v : Value) : (Instr.typeAssert (.iface 100 v) 95 98 true).run Tryz.prog W = .ok (.tuple #[.pointer none,.bool false]) W:=by kernel_rfl
theorem zC6 (W : World) (v : Value) : (Instr.typeAssert (.iface 100 v) 95 100 true).run Tryz.prog W = .ok (.tuple #[v,.bool true]) W:=by kernel_rfl
theorem ret_b {a b : Bool} (h : a = b) : Ending.returned (.bool a) = .returned (.bool b):=by rw [h]
theorem zBk (kd e v s : Int) (w : World) :
  Calls Tryz.prog 22 #[callV kd e v s] w fun r w'=>r = .returned (.bool (decide ((kd = 0 ∨ kd = 1) ∧ (e = 0 ∨ e = 1)))) ∧ Below w.heap.size w w':=by
 go_enter Tryz.func22,Tryz.ntmps22
 go_wp2
 all_goals
  go_ret
  refine ⟨?_,zAA (Below.refl _ _) _⟩
  exact ret_b (by grind)
theorem zAu (kd e v s : Int) (w : World) (hk : kd = 0 ∨ kd = 1) (he : e = 0 ∨ e = 1) :
  Calls Tryz.prog 22 #[callV kd e v s] w fun r w'=>r = .returned (.bool true) ∧ Below w.heap.size w w':=by
 have h:=zBk kd e v s w
 rw [decide_eq_true ⟨hk,he⟩] at h
 exact h
section
variable {w w' : World} {b : Nat} {kd e v s : Int} {wk : Value}
structure AtTask (w : World) (b : Nat) (kd e v s : Int) (wk : Value) : Prop where
 c0 : w.cell? ⟨b,0,none⟩ = some (i64 kd)
 c1 : w.cell? ⟨b,1,none⟩ = some (i64 e)
 c2 : w.cell? ⟨b,2,none⟩ = some (u64 v)
 c3 : w.cell? ⟨b,3,none⟩ = some (i64 s)
 c4 : w.cell? ⟨b,4,none⟩ = some wk
theorem IsObj.task (h : IsObj w b (taskL kd e v s wk)) : AtTask w b kd e v s wk:=⟨h.at' 0 _ rfl,h.at' 1 _ rfl,h.at' 2 _ rfl,h.at' 3 _ rfl,h.at' 4 _ rfl⟩
theorem zB9 {bp b1 b2 : Nat} {k : Pu} (h : IsObj w b (taskL kd e v s (wPut bp))) (hk : IsPu w bp b1 b2 k) : Calls Tryz.prog 53 #[pt b] w fun r w'=>r = .returned (i64 k.ph) ∧ w = w':=by
 have c4:=h.task.c4
 have HK:=zIo hk
 clear h hk
 go_enter Tryz.func53,Tryz.ntmps53
 go_wp2_with fail
 refine (zD9 _ _ _ _ _ HK.out.obj).mono ?_
 rintro r w' ⟨rfl,rfl⟩
 go_wp2
 go_ret
 exact ⟨rfl,rfl⟩
theorem zF9 {bp b1 b2 : Nat} {k : Pu} (h : IsObj w b (taskL kd e v s (wPut bp))) (hk : IsPu w bp b1 b2 k) : Calls Tryz.prog 52 #[pt b] w fun r w'=>r = .returned (.bool (k.ph != 0)) ∧ w = w':=by
 have HP:=zIo (zB9 h hk)
 clear h hk
 go_enter Tryz.func52,Tryz.ntmps52
 go_wp2_with fail
 refine HP.out.mono ?_
 rintro r w' ⟨rfl,rfl⟩
 go_wp2
 go_ret
 exact ⟨rfl,rfl⟩
end
section
variable {W w w' : World} {p c b bp b1 b2 : Nat} {v : Value} {C : List Int} {L : List Ev} {k : Pu} {R : List Thing} {kd e x s : Int}
abbrev tTask (W : World) (b : Nat) (kd e x s : Int) (wk : Value) : Thing:=tObj W.heap.size b (taskL kd e x s wk)
theorem PuHold.obj (h : PuHold W w p c v C L bp b1 b2 k (tTask W b kd e x s (wPut bp) :: R)) : IsObj w b (taskL kd e x s (wPut bp)):=(Hold.has h 2 _ rfl).1
def Pu.reply (k : Pu) : Value:=if k.ph = 1 then replyV true 0 k.tk.lo k.tk.hi else replyV false 0 0 0
theorem PuHold.treply (h : PuHold W w p c v C L bp b1 b2 k (tTask W b kd e x s (wPut bp) :: R)) :
  Calls Tryz.prog 41 #[pt b] w fun r w'=>r = .returned k.reply ∧ Below w.heap.size w w':=by
 have HH:=zIo (h.later (zAA (Below.refl _ _) (.cells #[.bool false,.int .u64 0,.int .i64 0,.int .i64 0] 59)))
 by_cases hp : k.ph = 1
 ·have HR : Hid (k.reply = replyV true 0 k.tk.lo k.tk.hi):=if_pos hp
  have q : (k.ph != 1) = false:=by simp [hp]
  have HP:=zIo hp
  have HF:=zIo (zB9 HH.out.obj HH.out.pu)
  clear h hp
  go_enter Tryz.func41,Tryz.ntmps41
  go_wp2_with fail
  refine HF.out.mono ?_
  rintro r w1 ⟨rfl,rfl⟩
  clear HF
  replace HH:=zIo (HH.out.later (zAA (Below.refl _ _) (.cells #[.bool true,.int .u64 0,.int .i64 0,.int .i64 0] 59)))
  have c4:=HH.out.obj.task.c4
  have a1:=fun W=>zC4 W (pt bp)
  have a2:=fun W=>zE1 W (pt bp)
  go_wp2_with fail
  refine (zEJ _ _ _ _ _ HP.out HH.out.pu).mono ?_
  rintro r w1 ⟨rfl,hb1⟩
  have c5:=(HH.out.later hb1).obj.task.c4
  obtain ⟨hc,hf⟩:=bcell hb1
  go_wp2
  rw [HR.out]
  have k0 : ∀ j x,(#[Value.bool false,.int .u64 0,.int .i64 0,.int .i64 0] : Array Value)[j]? = some x → (w1.cell? ⟨w.heap.size,j,none⟩).isSome = true:=fun j x hj=>by
   rw [hc _ _ (by simp; omega),World.cell?_alloc_old _ _ _ (by simp),World.cell?_alloc_new,hj]
   rfl
  have k1 : (w1.cell? ⟨w.heap.size,0,none⟩).isSome = true:=k0 0 _ rfl
  have k2 : (w1.cell? ⟨w.heap.size,1,none⟩).isSome = true:=k0 1 _ rfl
  have k3 : (w1.cell? ⟨w.heap.size,2,none⟩).isSome = true:=k0 2 _ rfl
  have k4 : (w1.cell? ⟨w.heap.size,3,none⟩).isSome = true:=k0 3 _ rfl
  have hbb : Below w.heap.size w w1:=zAE (zAA (zAA (Below.refl _ _) _) _) hb1
  exact bodyPost_ret (v:=replyV true 0 k.tk.lo k.tk.hi) (by simp [results,Tryz.results41,go_sem,k1,k2,k3,k4]) rfl ⟨rfl,zAG (zAG (zAG (zAG (zAG (zAG hbb (Nat.le_succ _) _) (Nat.le_succ _) _) (Nat.le_refl _) _) (Nat.le_refl _) _) (Nat.le_refl _) _) (Nat.le_refl _) _⟩
 ·have HR : Hid (k.reply = replyV false 0 0 0):=if_neg hp
  have q : (k.ph != 1) = true:=by simp [hp]
  have HF:=zIo (zB9 HH.out.obj HH.out.pu)
  clear h hp
  go_enter Tryz.func41,Tryz.ntmps41
  go_wp2_with fail
  refine HF.out.mono ?_
  rintro r w1 ⟨rfl,rfl⟩
  clear HF
  go_wp2
  rw [HR.out]
  exact bodyPost_ret (v:=replyV false 0 0 0) (by simp [results,Tryz.results41,go_sem]) rfl ⟨rfl,by repeat' first | exact zAA (Below.refl _ _) _ | refine zAG ?_ (by simp) _⟩
end
structure Begun3 (w W : World) (t s so d kd e x start : Int) : Prop where
 conf : AtC W w.heap.size t s so d
 call : IsObj W (w.heap.size + 1) [i64 kd,i64 e,u64 x,i64 start]
 task : IsObj W (w.heap.size + 1 + 1) (taskL kd e x start .nilIface)
 below : Below w.heap.size w W
 size : W.heap.size = w.heap.size + 1 + 1 + 1
theorem Begun3.made (w : World) (t s so d kd e x start : Int) : Begun3 w (((w.alloc (.cells #[.int .i64 t,.int .i64 s,.int .i64 so,.int .i64 d] 26)).alloc (.cells #[i64 kd,i64 e,u64 x,i64 start] 48)).alloc (.cells #[i64 kd,i64 e,u64 x,i64 start,.nilIface] 97)) t s so d kd e x start:=by
 have s1 : (w.alloc (.cells #[.int .i64 t,.int .i64 s,.int .i64 so,.int .i64 d] 26)).heap.size = w.heap.size + 1:=by simp
 have h1:=AtC.made w t s so d
 have b1:=zAA (Below.refl w.heap.size w) (.cells #[.int .i64 t,.int .i64 s,.int .i64 so,.int .i64 d] 26)
 generalize w.alloc (.cells #[.int .i64 t,.int .i64 s,.int .i64 so,.int .i64 d] 26) = wa at s1 h1 b1 ⊢
 have s2 : (wa.alloc (.cells #[i64 kd,i64 e,u64 x,i64 start] 48)).heap.size = wa.heap.size + 1:=by simp
 have h2 : IsObj (wa.alloc (.cells #[i64 kd,i64 e,u64 x,i64 start] 48)) wa.heap.size [i64 kd,i64 e,u64 x,i64 start]:=IsObj.made wa [i64 kd,i64 e,u64 x,i64 start] 48
 have b2:=zAA (Below.refl wa.heap.size wa) (.cells #[i64 kd,i64 e,u64 x,i64 start] 48)
 generalize wa.alloc (.cells #[i64 kd,i64 e,u64 x,i64 start] 48) = wb at s2 h2 b2 ⊢
 have s3 : (wb.alloc (.cells #[i64 kd,i64 e,u64 x,i64 start,.nilIface] 97)).heap.size = wb.heap.size + 1:=by simp
 have h3 : IsObj (wb.alloc (.cells #[i64 kd,i64 e,u64 x,i64 start,.nilIface] 97)) wb.heap.size (taskL kd e x start .nilIface):=IsObj.made wb [i64 kd,i64 e,u64 x,i64 start,.nilIface] 97
 have b3:=zAA (Below.refl wb.heap.size wb) (.cells #[i64 kd,i64 e,u64 x,i64 start,.nilIface] 97)
 generalize wb.alloc (.cells #[i64 kd,i64 e,u64 x,i64 start,.nilIface] 97) = wc at s3 h3 b3 ⊢
 rw [s1] at h2 s2
 rw [s2] at h3 s3
 exact ⟨(h1.later b2 (by omega)).later b3 (by omega),h2.later b3,h3,zAE b1 (zAE b2 b3 |>.mono (by omega)),s3⟩
theorem Begun3.later {w W W' : World} {t s so d kd e x start : Int} (h : Begun3 w W t s so d kd e x start) (k : Below W.heap.size W W') : AtC W' w.heap.size t s so d ∧ IsObj W' (w.heap.size + 1) [i64 kd,i64 e,u64 x,i64 start] ∧ IsObj W' (w.heap.size + 1 + 1) (taskL kd e x start .nilIface) :=
 ⟨h.conf.later k (by have:=h.size; omega),h.call.later k,h.task.later k⟩
section
variable {w : World} {N : Nat}
def TpB (b bp b1 b2 : Nat) (i : Nat) : Prop:=i = b ∨ PuB bp b1 b2 i
theorem zGH (t s so d who e x start m : Int) (hl : Lay t s N) (w0 : 0 ≤ who) (w1 : who < t) (hm : who * s = m) (m0 : 0 ≤ m) (m1 : m + s ≤ N) (he : e = 0 ∨ e = 1) :
  Calls Tryz.prog 23 #[cf t s so d,i64 who,callV 0 e x start] w fun r w' => ∃ b bp b1 b2,r = .returned (pt b) ∧ IsObj w' b (taskL 0 e x start (wPut bp)) ∧ IsPu w' bp b1 b2 (pu0 t s so d who e x m) ∧ Below w.heap.size w w' ∧ (∀ i,TpB b bp b1 b2 i → w.heap.size ≤ i) ∧ ¬ PuB bp b1 b2 b:=by
 have HN:=zIo (fun w=>zGs (N:=N) (m:=m) w t s so d who e x hl w0 w1 hm m0 m1)
 have HR:=zIo (fun w=>zAu 0 e x start w (.inl rfl) he)
 have HF:=zIo (Begun3.made w t s so d 0 e x start)
 clear hm he hl w0 w1 m0 m1
 go_enter Tryz.func23,Tryz.ntmps23
 go_wp2_with fail
 generalize ((w.alloc (.cells #[.int .i64 t,.int .i64 s,.int .i64 so,.int .i64 d] 26)).alloc (.cells #[i64 0,i64 e,u64 x,i64 start] 48)).alloc (.cells #[i64 0,i64 e,u64 x,i64 start,.nilIface] 97) = W at HF ⊢
 refine (HR.out W).mono ?_
 rintro r w1 ⟨rfl,hb1⟩
 obtain ⟨⟨c0,c1,c2,c3⟩,hC,hT⟩:=HF.out.later hb1
 have d0:=hC.at' 0 _ rfl
 have d1:=hC.at' 1 _ rfl
 have d2:=hC.at' 2 _ rfl
 have HB:=zIo (zAU HF.out.below hb1 HF.out.below.size)
 have HT:=zIo hT
 clear hC hT
 go_wp2_with fail
 refine (HN.out w1).mono ?_
 rintro r w2 ⟨bp,b1,b2,rfl,hP,hb2,hn⟩
 have hO:=HT.out.later hb2
 have hf:=hO.fz 4
 have e4:=hO.at' 4 _ rfl
 have hs1:=HF.out.size
 have hs2:=hb1.size
 have hP2 : IsPu (w2.setCell ⟨w.heap.size + 1 + 1,4,none⟩ (wPut bp)) bp b1 b2 (pu0 t s so d who e x m):=hP.keep (T:=(· = w.heap.size + 1 + 1)) ((Keep.refl _ _).own 4 _) (fun h=>by have:=hn bp (.inl rfl); omega) (fun h=>by have:=hn b1 (.inr (.inl rfl)); omega) (fun h=>by have:=hn b2 (.inr (.inr rfl)); omega)
 have HX:=zIo hP2
 have HY:=zIo (hO.set 4 (wPut bp))
 have HZ : Hid (Below w.heap.size w (w2.setCell ⟨w.heap.size + 1 + 1,4,none⟩ (wPut bp))):=zAG (zAU HB.out hb2 HB.out.size) (by show w.heap.size ≤ w.heap.size + 1 + 1; omega) _
 have HN2 : Hid ((∀ i,TpB (w.heap.size + 1 + 1) bp b1 b2 i → w.heap.size ≤ i) ∧ ¬ PuB bp b1 b2 (w.heap.size + 1 + 1)):=by
  refine ⟨fun i hi=>?_,fun h=>by have:=hn _ h; omega⟩
  rcases hi with rfl | hi
  ·omega
  ·have:=hn _ hi
   omega
 clear hP2 hO hP hn
 go_wp2_with fail
 go_ret
 exact ⟨_,bp,b1,b2,rfl,HY.out,HX.out,HZ.out,HN2.out⟩
end
end
section
section
variable {base : Nat} {w w' : World} {b bg bs gs : Nat} {bt : Option Nat} {kd e x s : Int} {k : Ge}
theorem zCn (h : IsObj w b (taskL kd e x s (wGet bg))) (hk : IsGe base w bg bs gs bt k) : Calls Tryz.prog 53 #[pt b] w fun r w'=>r = .returned (i64 k.ph) ∧ w = w':=by
 have c4:=h.task.c4
 have HK:=zIo hk
 clear h hk
 go_enter Tryz.func53,Tryz.ntmps53
 go_wp2_with fail
 refine (zES _ _ _ _ _ _ _ HK.out).mono ?_
 rintro r w' ⟨rfl,rfl⟩
 go_wp2
 go_ret
 exact ⟨rfl,rfl⟩
theorem zFy (h : IsObj w b (taskL kd e x s (wGet bg))) (hk : IsGe base w bg bs gs bt k) : Calls Tryz.prog 52 #[pt b] w fun r w'=>r = .returned (.bool (k.ph != 0)) ∧ w = w':=by
 have HP:=zIo (zCn h hk)
 clear h hk
 go_enter Tryz.func52,Tryz.ntmps52
 go_wp2_with fail
 refine HP.out.mono ?_
 rintro r w' ⟨rfl,rfl⟩
 go_wp2
 go_ret
 exact ⟨rfl,rfl⟩
end
section
variable {W w w' : World} {p c b bg : Nat} {C : List Int} {L : List Ev} {k : Ge} {R : List Thing} {kd e x s : Int}
theorem GeH.obj (h : GeH W w p c C L bg k (tTask W b kd e x s (wGet bg) :: R)) : IsObj w b (taskL kd e x s (wGet bg)):=by
 obtain ⟨v,bs,gs,bt,h⟩:=h
 exact (Hold.has h 2 _ rfl).1
def Ge.reply (k : Ge) : Value:=if k.ph = 1 then replyV true k.val 0 0 else replyV false 0 0 0
theorem GeH.treply (h : GeH W w p c C L bg k (tTask W b kd e x s (wGet bg) :: R)) (h1 : k.ph = 1 → k.ta ≠ none) :
  Calls Tryz.prog 41 #[pt b] w fun r w'=>r = .returned k.reply ∧ Below w.heap.size w w':=by
 have hh:=h.later (zAA (Below.refl _ _) (.cells #[.bool false,.int .u64 0,.int .i64 0,.int .i64 0] 59))
 have ho:=hh.obj
 have HH:=zIo hh
 obtain ⟨v,bs,gs,bt,hh⟩:=hh
 have HF:=zIo (zCn ho (hh.has 1 _ rfl))
 clear hh ho
 by_cases hp : k.ph = 1
 ·have HR : Hid (k.reply = replyV true k.val 0 0):=if_pos hp
  have q : (k.ph != 1) = false:=by simp [hp]
  have H1:=zIo (h1 hp)
  clear h hp h1
  go_enter Tryz.func41,Tryz.ntmps41
  go_wp2_with fail
  refine HF.out.mono ?_
  rintro r w1 ⟨rfl,rfl⟩
  clear HF
  replace HH:=zIo (HH.out.later (zAA (Below.refl _ _) (.cells #[.bool true,.int .u64 0,.int .i64 0,.int .i64 0] 59)))
  have c4:=HH.out.obj.task.c4
  have a1:=fun W=>zCt W (pt bg)
  have a2:=fun W=>zC6 W (pt bg)
  have HV:=zIo (HH.out.value k.val rfl (fun _=>H1.out))
  go_wp2_with fail
  refine HV.out.mono ?_
  rintro r w1 ⟨rfl,hb1⟩
  obtain ⟨hc,hf⟩:=bcell hb1
  clear HV c4
  go_wp2
  rw [HR.out]
  have k0 : ∀ j x,(#[Value.bool false,.int .u64 0,.int .i64 0,.int .i64 0] : Array Value)[j]? = some x → (w1.cell? ⟨w.heap.size,j,none⟩).isSome = true:=fun j x hj=>by
   rw [hc _ _ (by simp; omega),World.cell?_alloc_old _ _ _ (by simp),World.cell?_alloc_new,hj]
   rfl
  have k1 : (w1.cell? ⟨w.heap.size,0,none⟩).isSome = true:=k0 0 _ rfl
  have k2 : (w1.cell? ⟨w.heap.size,1,none⟩).isSome = true:=k0 1 _ rfl
  have k3 : (w1.cell? ⟨w.heap.size,2,none⟩).isSome = true:=k0 2 _ rfl
  have k4 : (w1.cell? ⟨w.heap.size,3,none⟩).isSome = true:=k0 3 _ rfl
  have hbb : Below w.heap.size w w1:=zAE (zAA (zAA (Below.refl _ _) _) _) hb1
  exact bodyPost_ret (v:=replyV true k.val 0 0) (by simp [results,Tryz.results41,go_sem,k1,k2,k3,k4]) rfl ⟨rfl,zAG (zAG (zAG (zAG (zAG hbb (Nat.le_succ _) _) (Nat.le_refl _) _) (Nat.le_refl _) _) (Nat.le_refl _) _) (Nat.le_refl _) _⟩
 ·have HR : Hid (k.reply = replyV false 0 0 0):=if_neg hp
  have q : (k.ph != 1) = true:=by simp [hp]
  clear h hp h1
  go_enter Tryz.func41,Tryz.ntmps41
  go_wp2_with fail
  refine HF.out.mono ?_
  rintro r w1 ⟨rfl,rfl⟩
  clear HF
  go_wp2
  rw [HR.out]
  exact bodyPost_ret (v:=replyV false 0 0 0) (by simp [results,Tryz.results41,go_sem]) rfl ⟨rfl,by repeat' first | exact zAA (Below.refl _ _) _ | refine zAG ?_ (by simp) _⟩
end
section
variable {base : Nat} {w : World} {N : Nat}
theorem zFk (t s so d who e x start : Int) (hl : Lay t s N) (he : e = 0 ∨ e = 1) (hb : base ≤ w.heap.size) :
  Calls Tryz.prog 23 #[cf t s so d,i64 who,callV 1 e x start] w fun r w' => ∃ b bg bs gs,r = .returned (pt b) ∧ IsObj w' b (taskL 1 e x start (wGet bg)) ∧ IsGe base w' bg bs gs none (ge0 t s so d who e start N) ∧ Below w.heap.size w w' ∧ (∀ i,i = b ∨ GeB bg bs gs none i → w.heap.size ≤ i) ∧ ¬ GeB bg bs gs none b:=by
 have HN:=zIo (fun w1 hb1=>zGO base w1 N t s so d who e start hl hb1)
 have HR:=zIo (fun w=>zAu 1 e x start w (.inr rfl) he)
 have HF:=zIo (Begun3.made w t s so d 1 e x start)
 have Hb:=zIo hb
 clear he hl hb
 go_enter Tryz.func23,Tryz.ntmps23
 go_wp2_with fail
 generalize ((w.alloc (.cells #[.int .i64 t,.int .i64 s,.int .i64 so,.int .i64 d] 26)).alloc (.cells #[i64 1,i64 e,u64 x,i64 start] 48)).alloc (.cells #[i64 1,i64 e,u64 x,i64 start,.nilIface] 97) = W at HF ⊢
 refine (HR.out W).mono ?_
 rintro r w1 ⟨rfl,hb1⟩
 obtain ⟨⟨c0,c1,c2,c3⟩,hC,hT⟩:=HF.out.later hb1
 have d0:=hC.at' 0 _ rfl
 have d1:=hC.at' 1 _ rfl
 have d2:=hC.at' 3 _ rfl
 have HB:=zIo (zAU HF.out.below hb1 HF.out.below.size)
 have HT:=zIo hT
 clear hC hT
 go_wp2_with fail
 refine (HN.out w1 (by have:=HB.out.size; have:=Hb.out; omega)).mono ?_
 rintro r w2 ⟨bg,bs,gs,rfl,hP,hb2,hn⟩
 have hO:=HT.out.later hb2
 have hf:=hO.fz 4
 have e4:=hO.at' 4 _ rfl
 have hs1:=HF.out.size
 have hs2:=hb1.size
 have hP2 : IsGe base (w2.setCell ⟨w.heap.size + 1 + 1,4,none⟩ (wGet bg)) bg bs gs none (ge0 t s so d who e start N):=hP.keep (T:=(· = w.heap.size + 1 + 1)) ((Keep.refl _ _).own 4 _) (fun i hi h=>by have:=hn i hi; omega)
 have HX:=zIo hP2
 have HY:=zIo (hO.set 4 (wGet bg))
 have HZ : Hid (Below w.heap.size w (w2.setCell ⟨w.heap.size + 1 + 1,4,none⟩ (wGet bg))):=zAG (zAU HB.out hb2 HB.out.size) (by show w.heap.size ≤ w.heap.size + 1 + 1; omega) _
 have HN2 : Hid ((∀ i,i = w.heap.size + 1 + 1 ∨ GeB bg bs gs none i → w.heap.size ≤ i) ∧ ¬ GeB bg bs gs none (w.heap.size + 1 + 1)):=by
  refine ⟨fun i hi=>?_,fun h=>by have:=hn _ h; omega⟩
  rcases hi with rfl | hi
  ·omega
  ·have:=hn _ hi
   omega
 clear hP2 hO hP hn
 go_wp2_with fail
 go_ret
 exact ⟨_,bg,bs,gs,rfl,HY.out,HX.out,HZ.out,HN2.out⟩
end
end
section
section
variable {W w w' : World} {p c b : Nat} {v : Value} {C : List Int} {L : List Ev} {R : List Thing} {kd e x s : Int}
end
end
section
inductive Wk where
 | pu (k : Pu)
 | ge (k : Ge)
structure Pl where
 N : Nat
 m : Int
 nb : Nat
 h0 : Nat
 hw : Nat
def Wk.ph : Wk → Int
 | .pu k=>k.ph
 | .ge k=>k.ph
def Wk.step (T : Wk) (P : Pl) (C : List Int) (now z : Int) : Wk:=match T with
 | .pu k=>.pu (k.step P.m P.nb P.h0 C now)
 | .ge k=>.ge (k.step P.N P.hw C z)
def Wk.cells (T : Wk) (P : Pl) (C : List Int) (now : Int) : List Int:=match T with
 | .pu k=>k.cells P.N P.nb C now
 | .ge k=>k.cells P.N P.hw C
def Wk.ev (T : Wk) (P : Pl) (C : List Int) (now : Int) : List Ev:=match T with
 | .pu k=>k.ev P.N P.nb P.h0 C now
 | .ge k=>k.ev P.N P.hw C
def Wk.ask (T : Wk) (C : List Int) (z : Int) : Prop:=match T with
 | .pu _=>True
 | .ge k=>k.ask C z
def Wk.Ok (T : Wk) (P : Pl) (C : List Int) : Prop:=match T with
 | .pu k=>k.Ok P.N P.m P.nb P.h0 C
 | .ge k=>k.Ok P.N P.hw C ∧ (k.ph = 1 → k.ta ≠ none)
def Wk.reply (T : Wk) : Value:=match T with
 | .pu k=>k.reply
 | .ge k=>k.reply
section
variable {T : Wk} {P : Pl} {C : List Int} {now z : Int}
theorem Wk.cells_len : (T.cells P C now).length = C.length:=by
 cases T with
 | pu k=>exact k.cells_len P.N P.nb C now
 | ge k=>exact k.cells_len P.N P.hw C
theorem Wk.ev_le : (T.ev P C now).length ≤ 1:=by
 cases T with
 | pu k=>exact k.ev_le P.N P.nb P.h0 C now
 | ge k=>exact k.ev_le P.N P.hw C
theorem Ge.has_step {k : Ge} {N hz : Nat} (h : k.ph = 1 → k.ta ≠ none) : (k.step N hz C z).ph = 1 → (k.step N hz C z).ta ≠ none:=by
 unfold Ge.step
 split
 ·exact h
 ·rename_i hp
  have hp0 : k.ph = 0:=Classical.not_not.1 hp
  split
  ·rename_i hta
   unfold Ge.read
   split
   ·intro h1
    have h1' : k.ph = 1:=h1
    omega
   ·split
    ·intro h1
     exact absurd h1 (by simp)
    ·intro _ h1
     cases h1
  ·unfold Ge.grab
   split
   ·intro _ h1
    cases h1
   ·split
    ·intro h1
     have h1' : k.ph = 1:=h1
     omega
    ·intro _ h1
     cases h1
end
def TsH (W w : World) (p c : Nat) (C : List Int) (L : List Ev) (b : Nat) (kd e x s : Int) (T : Wk) (R : List Thing) : Prop:=match T with
 | .pu k => ∃ v bp b1 b2,PuHold W w p c v C L bp b1 b2 k (tTask W b kd e x s (wPut bp) :: R)
 | .ge k => ∃ bg,GeH W w p c C L bg k (tTask W b kd e x s (wGet bg) :: R)
section
variable {W w w' : World} {p c b : Nat} {C : List Int} {L : List Ev} {T : Wk} {R : List Thing} {kd e x s : Int}
theorem TsH.reply {P : Pl} (h : TsH W w p c C L b kd e x s T R) (hk : T.Ok P C) : Calls Tryz.prog 41 #[pt b] w fun r w'=>r = .returned T.reply ∧ Below w.heap.size w w':=by
 cases T with
 | pu k' =>
  obtain ⟨v,bp,b1,b2,h⟩:=h
  exact h.treply
 | ge k' =>
  obtain ⟨bg,h⟩:=h
  exact h.treply hk.2
end
def wk0 (t s so d who : Int) (take : Bool) (e x start m : Int) (N : Nat) : Wk:=if take then .ge (ge0 t s so d who e start N) else .pu (pu0 t s so d who e x m)
abbrev kdI (take : Bool) : Int:=if take then 1 else 0
def Wk.take : Wk → Bool
 | .pu _=>false
 | .ge _=>true
section
variable {W w w' : World} {p c b : Nat} {C : List Int} {L : List Ev} {T : Wk} {R : List Thing} {kd e x s : Int} {A : Thing}
end
section
variable {T : Wk} {P : Pl} {C C0 : List Int} {n : Nat} {e now z : Int}
end
end
section
inductive TB where
 | pu (bp b1 b2 : Nat)
 | ge (bg bs gs : Nat) (bt : Option Nat)
def TB.F (B : TB) (i : Nat) : Prop:=match B with
 | .pu bp b1 b2=>PuB bp b1 b2 i
 | .ge bg bs gs bt=>GeB bg bs gs bt i
def TB.wk (B : TB) : Value:=match B with
 | .pu bp _ _=>wPut bp
 | .ge bg _ _ _=>wGet bg
def isMa (base : Nat) (w : World) (B : TB) (T : Wk) : Prop:=match B,T with
 | .pu bp b1 b2,.pu k=>IsPu w bp b1 b2 k ∧ ∀ i,PuB bp b1 b2 i → base ≤ i
 | .ge bg bs gs bt,.ge k=>IsGe base w bg bs gs bt k
 | .pu _ _ _,.ge _=>False
 | .ge _ _ _ _,.pu _=>False
structure WT where
 b : Nat
 B : TB
 kd : Int
 e : Int
 x : Int
 s : Int
 T : Wk
def wT (base : Nat) (y : WT) : Thing:=⟨fun w=>IsObj w y.b (taskL y.kd y.e y.x y.s y.B.wk) ∧ base ≤ y.b ∧ ¬ y.B.F y.b ∧ isMa base w y.B y.T,fun i=>i = y.b ∨ y.B.F i⟩
section
variable {base : Nat} {w w' : World} {B : TB} {T : Wk} {y : WT}
theorem isMa.keep {Q : Nat → Prop} (h : isMa base w B T) (e : Keep Q w w') (hn : ∀ i,B.F i → ¬ Q i) : isMa base w' B T:=by
 cases B with
 | pu bp b1 b2 =>
  cases T with
  | pu k=>exact ⟨h.1.keep e (hn _ (.inl rfl)) (hn _ (.inr (.inl rfl))) (hn _ (.inr (.inr rfl))),h.2⟩
  | ge k=>exact h.elim
 | ge bg bs gs bt =>
  cases T with
  | pu k=>exact h.elim
  | ge k=>exact IsGe.keep h e hn
theorem isMa.lt (h : isMa base w B T) : ∀ i,B.F i → base ≤ i ∧ i < w.heap.size:=by
 cases B with
 | pu bp b1 b2 =>
  cases T with
  | pu k=>exact fun i hi=>⟨h.2 i hi,h.1.lt i hi⟩
  | ge k=>exact h.elim
 | ge bg bs gs bt =>
  cases T with
  | pu k=>exact h.elim
  | ge k=>exact fun i hi=>IsGe.lt h i hi
theorem wT_ok (base : Nat) (y : WT) : (wT base y).Ok base :=
 ⟨fun _ _ _ h e hn=>⟨h.1.keep e (hn y.b (.inl rfl)),h.2.1,h.2.2.1,h.2.2.2.keep e (fun i hi=>hn i (.inr hi))⟩,fun _ i h hi=>by
  rcases hi with rfl | hi
  ·exact ⟨h.2.1,h.1.lt⟩
  ·exact h.2.2.2.lt i hi⟩
end
section
variable {W w w' : World} {l : List Thing} {p c : Nat} {v : Value} {C : List Int} {L : List Ev} {y : WT}
theorem Hold.task (h : Hold W w l) (i j : Nat) (hne : i ≠ j) (hi : l[i]? = some (tMem W.heap.size p c v C L)) (hj : l[j]? = some (wT W.heap.size y)) : TsH W w p c C L y.b y.kd y.e y.x y.s y.T []:=by
 obtain ⟨b,B,kd,e,x,s,T⟩:=y
 have hm:=h.has i _ hi
 obtain ⟨h1,h2,h3,h4⟩:=h.has j _ hj
 have hap:=h.apart i j _ _ hi hj hne
 have three : ∀ {A : Thing},A.Ok W.heap.size → A.P w → (∀ q,A.F q ↔ B.F q) → Hold W w [tMem W.heap.size p c v C L,A,tTask W b kd e x s B.wk]:=fun {A} ok hP hF =>
  ⟨h.size,h.below,fun i E he=>by
   match i with
   | 0=>cases he; exact zBy _ _ _ _ _ _
   | 1=>cases he; exact ok
   | 2=>cases he; exact zAP _ _ _
   | i + 3=>simp at he,fun i E he=>by
   match i with
   | 0=>cases he; exact hm
   | 1=>cases he; exact hP
   | 2=>cases he; exact ⟨h1,h2⟩
   | i + 3=>simp at he,fun i j E G he hg hij q hq hq'=>by
   have a1 : ∀ q,Foot p c v q → ¬ (q = b ∨ B.F q):=hap
   match i,j with
   | 0,0=>exact hij rfl
   | 1,1=>exact hij rfl
   | 2,2=>exact hij rfl
   | 0,1=>cases he; cases hg; exact a1 q hq (.inr ((hF q).1 hq'))
   | 0,2=>cases he; cases hg; exact a1 q hq (.inl hq')
   | 1,0=>cases he; cases hg; exact a1 q hq' (.inr ((hF q).1 hq))
   | 2,0=>cases he; cases hg; exact a1 q hq' (.inl hq)
   | 1,2=>cases he; cases hg; have hq2 : q = b:=hq'; exact h3 (hq2 ▸ (hF q).1 hq)
   | 2,1=>cases he; cases hg; have hq2 : q = b:=hq; exact h3 (hq2 ▸ (hF q).1 hq')
   | i + 3,_=>simp at he
   | _,j + 3=>simp at hg⟩
 cases B with
 | pu bp b1 b2 =>
  cases T with
  | pu k=>exact ⟨v,bp,b1,b2,three (tPu_ok W.heap.size bp b1 b2 k) h4 (fun q=>Iff.rfl)⟩
  | ge k=>exact h4.elim
 | ge bg bs gs bt =>
  cases T with
  | pu k=>exact h4.elim
  | ge k=>exact ⟨bg,v,bs,gs,bt,three (tGe_ok W.heap.size bg bs gs bt k) h4 (fun q=>Iff.rfl)⟩
theorem zFM {Q : World → Prop} {b bp b1 b2 : Nat} {kd e x s now : Int} {k' : Pu} (h : IsObj w b (taskL kd e x s (wPut bp)))
  (hq : ∀ w',Q w' → IsObj w' b (taskL kd e x s (wPut bp)) ∧ IsPu w' bp b1 b2 k')
  (hin : Calls Tryz.prog 50 #[pt bp,pt p,i64 now] w fun r w'=>r = .returned (i64 k'.ph) ∧ Q w') :
  Calls Tryz.prog 40 #[pt b,pt p,i64 now] w fun r w'=>r = .returned (.bool (k'.ph != 0)) ∧ Q w':=by
 have c4:=h.task.c4
 have HC:=zIo hin
 have HQ:=zIo hq
 have a1:=zC4 w (pt bp)
 clear h hin hq
 go_enter Tryz.func40,Tryz.ntmps40
 go_wp2_with fail
 refine HC.out.mono ?_
 rintro r w1 ⟨rfl,hH⟩
 have HO:=zIo (zF9 (HQ.out _ hH).1 (HQ.out _ hH).2)
 have HH:=zIo hH
 clear hH c4 a1
 go_wp2_with fail
 refine HO.out.mono ?_
 rintro r w2 ⟨rfl,rfl⟩
 go_wp2
 go_ret
 exact ⟨rfl,HH.out⟩
theorem zFT {Q : Int → World → Prop} {f : Int → Ge} {b bg : Nat} {kd e x s now : Int} (h : IsObj w b (taskL kd e x s (wGet bg)))
  (hq : ∀ z w',Q z w' → IsObj w' b (taskL kd e x s (wGet bg)) ∧ ∃ base bs gs bt,IsGe base w' bg bs gs bt (f z))
  (hin : Calls Tryz.prog 51 #[pt bg,pt p] w fun r w' => ∃ z,r = .returned (i64 (f z).ph) ∧ Q z w') :
  Calls Tryz.prog 40 #[pt b,pt p,i64 now] w fun r w' => ∃ z,r = .returned (.bool ((f z).ph != 0)) ∧ Q z w':=by
 have c4:=h.task.c4
 have HC:=zIo hin
 have HQ:=zIo hq
 have a1:=zCt w (pt bg)
 have a2:=zC6 w (pt bg)
 clear h hin hq
 go_enter Tryz.func40,Tryz.ntmps40
 go_wp2_with fail
 refine HC.out.mono ?_
 rintro r w1 ⟨z,rfl,hH⟩
 obtain ⟨g1,base,bs,gs,bt,g2⟩:=HQ.out z _ hH
 have HO:=zIo (zFy g1 g2)
 have HH:=zIo hH
 clear hH c4 a1 a2 g1 g2
 go_wp2_with fail
 refine HO.out.mono ?_
 rintro r w2 ⟨rfl,rfl⟩
 go_wp2
 go_ret
 exact ⟨z,rfl,HH.out⟩
theorem Hold.tstep {P : Pl} {now : Int} (h : Hold W w l) (i j : Nat) (hne : i ≠ j) (hi : l[i]? = some (tMem W.heap.size p c v C L)) (hj : l[j]? = some (wT W.heap.size y)) (hk : y.T.Ok P C) (n0 : 0 ≤ now) (hL : L.length < 1000000000) :
  Calls Tryz.prog 40 #[pt y.b,pt p,i64 now] w fun r w' => ∃ z,y.T.ask C z ∧ r = .returned (.bool ((y.T.step P C now z).ph != 0)) ∧ ∃ v' B',Hold W w' ((l.set i (tMem W.heap.size p c v' (y.T.cells P C now) (L ++ y.T.ev P C now))).set j (wT W.heap.size ⟨y.b,B',y.kd,y.e,y.x,y.s,y.T.step P C now z⟩)):=by
 obtain ⟨b,B,kd,e,x,s,T⟩:=y
 have hm:=h.has i _ hi
 obtain ⟨h1,h2,h3,h4⟩:=h.has j _ hj
 have hap:=Hold.free h i j hne hi hj
 have hlj : ∀ {l' : List Thing},l'.length = l.length → j < l'.length:=fun e=>by rw [e]; exact (List.getElem?_eq_some_iff.1 hj).1
 cases B with
 | pu bp b1 b2 =>
  cases T with
  | ge k=>exact h4.elim
  | pu k =>
   have hin:=zE7 W.heap.size w bp b1 b2 p c v C L k P.N P.m P.nb P.h0 now hk n0 h4.1 hm (fun q hq=>hap q (.inr hq)) h.size hL
   refine (zFM (k':=k.step P.m P.nb P.h0 C now) (Q:=fun w' => ∃ v',Hold W w' ((l.set i (tMem W.heap.size p c v' (k.cells P.N P.nb C now) (L ++ k.ev P.N P.nb P.h0 C now))).set j (wT W.heap.size ⟨b,.pu bp b1 b2,kd,e,x,s,.pu (k.step P.m P.nb P.h0 C now)⟩))) (b1:=b1) (b2:=b2) h1 (fun w' hq=>?_) (hin.mono ?_)).mono ?_
   ·obtain ⟨v',hh⟩:=hq
    have h5:=hh.has j _ (List.getElem?_set_self (hlj (by rw [List.length_set])))
    exact ⟨h5.1,h5.2.2.2.1⟩
   ·rintro r w' ⟨g1,v',hD,hO⟩
    refine ⟨g1,v', ?_⟩
    refine h.turn2 i j hne hi hj (hD.keep.mono (fun q hq=>?_)) (zBy _ _ _ _ _ _) (wT_ok _ _) hD.mem ⟨h1.keep hD.keep (fun hq=>?_),h2,h3,hO,h4.2⟩ (fun q hq=>?_) (fun q hq=>hq)
    ·rcases hq with hq | hq
     ·exact .inl (.inr hq)
     ·exact .inr hq
    ·rcases hq with hq | hq
     ·exact h3 hq
     ·exact hap b (.inl rfl) hq
    ·rcases hq with h1 | h1 | h1
     ·exact .inl (.inl h1)
     ·exact .inl (.inr (.inl h1))
     ·exact (hD.moved q h1).imp (fun h=>.inr (.inr h)) id
   ·rintro r w' ⟨g1,v',g2⟩
    exact ⟨0,trivial,g1,v',_,g2⟩
 | ge bg bs gs bt =>
  cases T with
  | pu k=>exact h4.elim
  | ge k =>
   have hin:=zFh W.heap.size w bg bs gs p c bt v C L k P.N P.hw hk.1 h4 hm (fun q hq=>hap q (.inr hq)) h.size hL
   refine (zFT (f:=fun z=>k.step P.N P.hw C z) (Q:=fun z w'=>k.ask C z ∧ ∃ v' bs' gs' bt',Hold W w' ((l.set i (tMem W.heap.size p c v' (k.cells P.N P.hw C) (L ++ k.ev P.N P.hw C))).set j (wT W.heap.size ⟨b,.ge bg bs' gs' bt',kd,e,x,s,.ge (k.step P.N P.hw C z)⟩))) h1 (fun z w' hq=>?_) (hin.mono ?_)).mono ?_
   ·obtain ⟨_,v',bs',gs',bt',hh⟩:=hq
    have h5:=hh.has j _ (List.getElem?_set_self (hlj (by rw [List.length_set])))
    exact ⟨h5.1,_,_,_,_,h5.2.2.2⟩
   ·rintro r w' ⟨z,g0,g1,v',bs',gs',bt',hD,hG,hF,hA⟩
    refine ⟨z,g1,g0,v',bs',gs',bt', ?_⟩
    have hbw : b < w.heap.size:=h1.lt
    refine h.turn3 i j hne hi hj (hD.keep.mono (fun q hq=>?_)) (zBy _ _ _ _ _ _) (wT_ok _ _) hD.mem ⟨h1.keep hD.keep (fun hq=>?_),h2,(fun hq=>?_),hG⟩ (fun q hq=>?_) (fun q hq=>?_) (fun q hq hg=>?_)
    ·rcases hq with hq | hq
     ·exact .inl (.inr hq)
     ·exact .inr hq
    ·rcases hq with hq | hq
     ·exact h3 hq
     ·exact hap b (.inl rfl) hq
    ·rcases hF b hq with hq | hq
     ·exact h3 hq
     ·omega
    ·rcases hq with h1 | h1 | h1
     ·exact .inl (.inl h1)
     ·exact .inl (.inr (.inl h1))
     ·exact (hD.moved q h1).imp (fun h=>.inr (.inr h)) id
    ·rcases hq with hq | hq
     ·exact .inl (.inl hq)
     ·exact (hF q hq).imp (fun h=>.inr h) id
    ·rcases hg with hg | hg
     ·have hgb : q = b:=hg
      rw [hgb] at hq
      rcases hq with h1 | h1 | h1
      ·exact hap b (.inl rfl) (.inl h1)
      ·exact hap b (.inl rfl) (.inr (.inl h1))
      ·rcases hD.moved b h1 with h | h
       ·exact hap b (.inl rfl) (.inr (.inr h))
       ·omega
     ·exact hA q hg hq
   ·rintro r w' ⟨z,g1,g0,v',bs',gs',bt',g2⟩
    exact ⟨z,g0,g1,v',_,g2⟩
theorem Hold.tnew {t s so d who e x start m : Int} {N : Nat} (take : Bool) {kd : Int} (hk : kdI take = kd) (h : Hold W w l) (hl : Lay t s N) (w0 : 0 ≤ who) (w1 : who < t) (hm : who * s = m) (m0 : 0 ≤ m) (m1 : m + s ≤ N) (he : e = 0 ∨ e = 1) :
  Calls Tryz.prog 23 #[cf t s so d,i64 who,callV kd e x start] w fun r w' => ∃ b B,r = .returned (pt b) ∧ Hold W w' (l ++ [wT W.heap.size ⟨b,B,kd,e,x,start,wk0 t s so d who take e x start m N⟩]) ∧ Below w.heap.size w w' ∧ w.heap.size ≤ b:=by
 subst hk
 cases take with
 | false =>
  refine (zGH t s so d who e x start m hl w0 w1 hm m0 m1 he).mono ?_
  rintro r w' ⟨b,bp,b1,b2,h1,h2,h3,h4,h5,h6⟩
  refine ⟨b,.pu bp b1 b2,h1,h.more h4 (wT_ok _ _) ⟨h2,Nat.le_trans h.size (h5 b (.inl rfl)),h6,h3,fun i hi=>Nat.le_trans h.size (h5 i (.inr hi))⟩ (fun q hq=>?_),h4,h5 b (.inl rfl)⟩
  exact h5 q hq
 | true =>
  refine (zFk (base:=W.heap.size) t s so d who e x start hl he h.size).mono ?_
  rintro r w' ⟨b,bg,bs,gs,h1,h2,h3,h4,h5,h6⟩
  refine ⟨b,.ge bg bs gs none,h1,h.more h4 (wT_ok _ _) ⟨h2,Nat.le_trans h.size (h5 b (.inl rfl)),h6,h3⟩ (fun q hq=>?_),h4,h5 b (.inl rfl)⟩
  exact h5 q hq
end
def Wk.few (T : Wk) (n : Nat) : Prop:=match T with
 | .pu _=>True
 | .ge k=>k.sn.passes ≤ n ∧ k.tries ≤ n
section
variable {T : Wk} {P : Pl} {C C' : List Int} {n n' : Nat} {now z : Int}
theorem Wk.Ok.cells (h : T.Ok P C) (e : C'.length = C.length) : T.Ok P C':=by
 cases T with
 | pu k=>exact Pu.Ok.cells h e
 | ge k=>exact ⟨Ge.Ok.cells h.1 e,h.2⟩
theorem Wk.few.mono (h : T.few n) (hn : n ≤ n') : T.few n':=by
 cases T with
 | pu k=>exact trivial
 | ge k =>
  have h1 : k.sn.passes ≤ n ∧ k.tries ≤ n:=h
  exact ⟨by have:=h1.1; omega,by have:=h1.2; omega⟩
theorem Wk.Ok.next (h : T.Ok P C) (hb : T.few n) (hn : n < 1000000) (ha : T.ask C z) (n0 : 0 ≤ now) (hf : ∀ j,0 ≤ C.getD j 0 ∧ C.getD j 0 ≤ 18446744073709551615) : (T.step P C now z).Ok P (T.cells P C now) ∧ (T.step P C now z).few (n + 1):=by
 cases T with
 | pu k =>
  have h1 : k.Ok P.N P.m P.nb P.h0 C:=h
  exact ⟨(h1.next_ (now:=now) n0 (fun j=>(hf j).1)).1.cells (k.cells_len _ _ _ _),trivial⟩
 | ge k =>
  have h1 : k.sn.passes ≤ n ∧ k.tries ≤ n:=hb
  obtain ⟨o1,o2,o3,o4⟩:=h.1.next (z:=z) ha (fun a=>by have:=h1.1; omega) (by have:=h1.2; omega) hf
  refine ⟨⟨o1,Ge.has_step h.2⟩, ?_, ?_⟩
  ·show (k.step P.N P.hw C z).sn.passes ≤ ((n + 1 : Nat) : Int)
   have:=h1.1
   omega
  ·show (k.step P.N P.hw C z).tries ≤ ((n + 1 : Nat) : Int)
   have:=h1.2
   omega
end
theorem zH6 {t s so d who e x start m : Int} {N nb h0 hw : Nat} {C : List Int} (take : Bool) (hl : Lay t s N) (hlen : (C.length : Int) = 2 * N + 2 * t) (hh0 : (h0 : Int) = 2 * N) (hhw : (hw : Int) = 2 * N + who) (hnb : (nb : Int) = 2 * N + t) (w0 : 0 ≤ who) (w1 : who < t) (hm : who * s = m) (m0 : 0 ≤ m) (m1 : m + s ≤ N)
  (o0 : 0 ≤ so) (o1 : so ≤ 4) (d0 : 0 ≤ d) (d1 : d ≤ 100) (he : e = 0 ∨ e = 1) (x0 : 0 ≤ x) (x1 : x ≤ 18446744073709551615) : (wk0 t s so d who take e x start m N).Ok ⟨N,m,nb,h0,hw⟩ C ∧ (wk0 t s so d who take e x start m N).few 0:=by
 have t1:=hl.t1
 cases take with
 | false=>exact ⟨pu0_ok (nb:=nb) hl hh0 hnb (by omega) w0 w1 hm m0 m1 o0 o1 d0 d1 (by omega) (by omega) x0 x1,trivial⟩
 | true=>exact ⟨⟨zH5 hl hlen hhw w0 w1 he,fun h=>by exact absurd h (by show ¬ (0 : Int) = 1; decide)⟩,Int.le_refl _,Int.le_refl _⟩
end
section
structure Note1 (who : Int) (C C' : List Int) (e : Ev) : Prop where
 who' : e.who = who
 op0 : 0 ≤ e.op
 op1 : e.op ≤ 3
 c0 : 0 ≤ e.cell
 c1 : e.cell < C.length
 old : e.old = C.getD e.cell.toNat 0
 ok : e.op ≠ 2 → e.ok = true
 new : e.op = 0 ∨ e.ok = false → e.new = C.getD e.cell.toNat 0
 cells : C' = C.set e.cell.toNat e.new
def Noted (who : Int) (C C' : List Int) (E : List Ev) : Prop:=(E = [] ∧ C' = C) ∨ ∃ e,E = [e] ∧ Note1 who C C' e
section
variable {who x old : Int} {C : List Int} {i : Nat}
theorem zDP {C : List Int} {i : Nat} (hi : i < C.length) : C.set i (C.getD i 0) = C:=by
 refine List.ext_getElem? (fun j=>?_)
 rw [List.getElem?_set]
 split
 ·rename_i h
  subst h
  rw [List.getD_eq_getElem?_getD,List.getElem?_eq_getElem hi]
  rfl
 ·rfl
theorem zAc (hi : i < C.length) : Noted who C C [⟨who,0,(i : Nat),C.getD i 0,C.getD i 0,true⟩] :=
 .inr ⟨_,rfl,rfl,Int.le_refl _,by show (0 : Int) ≤ 3; decide,by show (0 : Int) ≤ (i : Int); omega,by show (i : Int) < C.length; omega,by show _ = C.getD (i : Int).toNat 0; rw [Int.toNat_natCast],fun _=>rfl,fun _=>by show _ = C.getD (i : Int).toNat 0; rw [Int.toNat_natCast],by show C = C.set (i : Int).toNat _; rw [Int.toNat_natCast]; exact (zDP hi).symm⟩
theorem zAx (hi : i < C.length) : Noted who C (C.set i x) [⟨who,1,(i : Nat),C.getD i 0,x,true⟩] :=
 .inr ⟨_,rfl,rfl,by show (0 : Int) ≤ 1; decide,by show (1 : Int) ≤ 3; decide,by show (0 : Int) ≤ (i : Int); omega,by show (i : Int) < C.length; omega,by show _ = C.getD (i : Int).toNat 0; rw [Int.toNat_natCast],fun _=>rfl,fun h=>by rcases h with h | h <;> exact absurd h (by simp),by show _ = C.set (i : Int).toNat _; rw [Int.toNat_natCast]⟩
theorem zGh (hi : i < C.length) : Noted who C (C.set i x) [⟨who,3,(i : Nat),C.getD i 0,x,true⟩] :=
 .inr ⟨_,rfl,rfl,by show (0 : Int) ≤ 3; decide,Int.le_refl _,by show (0 : Int) ≤ (i : Int); omega,by show (i : Int) < C.length; omega,by show _ = C.getD (i : Int).toNat 0; rw [Int.toNat_natCast],fun _=>rfl,fun h=>by rcases h with h | h <;> exact absurd h (by simp),by show _ = C.set (i : Int).toNat _; rw [Int.toNat_natCast]⟩
theorem zCk (hi : i < C.length) (ho : C.getD i 0 = old) : Noted who C (C.set i x) [⟨who,2,(i : Nat),old,x,true⟩] :=
 .inr ⟨_,rfl,rfl,by show (0 : Int) ≤ 2; decide,by show (2 : Int) ≤ 3; decide,by show (0 : Int) ≤ (i : Int); omega,by show (i : Int) < C.length; omega,by show _ = C.getD (i : Int).toNat 0; rw [Int.toNat_natCast]; exact ho.symm,fun h=>absurd rfl h,fun h=>by rcases h with h | h <;> exact absurd h (by simp),by show _ = C.set (i : Int).toNat _; rw [Int.toNat_natCast]⟩
theorem zDp (hi : i < C.length) : Noted who C C [⟨who,2,(i : Nat),C.getD i 0,C.getD i 0,false⟩] :=
 .inr ⟨_,rfl,rfl,by show (0 : Int) ≤ 2; decide,by show (2 : Int) ≤ 3; decide,by show (0 : Int) ≤ (i : Int); omega,by show (i : Int) < C.length; omega,by show _ = C.getD (i : Int).toNat 0; rw [Int.toNat_natCast],fun h=>absurd rfl h,fun _=>by show _ = C.getD (i : Int).toNat 0; rw [Int.toNat_natCast],by show C = C.set (i : Int).toNat _; rw [Int.toNat_natCast]; exact (zDP hi).symm⟩
theorem zAT : Noted who C C []:=.inl ⟨rfl,rfl⟩
end
theorem zDk {nb : Nat} {n : Int} {k : Tk} {C : List Int} {now : Int} (h : k.Ok nb n C) : Noted k.who C (stp nb k C now).2.1 (stp nb k C now).2.2.toList:=by
 have hl:=h.len; have w0:=h.w0; have w1:=h.w1; have s0:=h.s0
 have h0 : nb < C.length:=by omega
 have h1 : k.steps < k.t → nb + k.steps.toNat < C.length:=fun _=>by omega
 have h2 : nb + k.who.toNat < C.length:=by omega
 unfold stp
 split
 ·split
  ·exact zGh h0
  ·split
   ·split
    ·rename_i hs
     exact zAc (h1 hs)
    ·split
     ·exact zAx h2
     ·exact zAT
   ·split
    ·split
     ·exact zAc h0
     ·split
      ·exact zAc h0
      ·split
       ·split
        ·exact zCk h0 rfl
        ·exact zDp h0
       ·exact zAc h0
    ·split
     ·exact zAT
     ·exact zAT
 ·exact zAT
theorem zHf {k : Cl} {n m : Int} {hz : Nat} {C : List Int} (h : k.Ok n m hz C) : Noted k.who C C (k.ev hz C):=by
 have h1:=h.len; have h2:=h.hz; have h3:=h.s0; have h4:=h.s1; have h5:=h.m0; have h6:=h.m1; have h7:=h.g0; have h8:=h.g1; have h9:=h.lay.t1
 unfold Cl.ev
 split
 ·refine zAc ?_
  unfold Cl.cell
  split <;> omega
 ·exact zAT
theorem zHk {k : Sn} {n : Int} {C : List Int} (h : k.Ok n C) : Noted k.who C C (k.ev C):=by
 unfold Sn.ev
 split
 ·refine zAc ?_
  have h1:=h.len; have h2:=h.s0; have h3:=h.s1; have h4:=h.r0; have h5:=h.r1; have h6:=h.lay.t1; have h7:=h.N
  unfold Sn.slot
  have:=Int.emod_nonneg (k.start + k.read) (show (k.N : Int) ≠ 0 by omega)
  have:=Int.emod_lt_of_pos (k.start + k.read) (show 0 < (k.N : Int) by omega)
  omega
 ·exact zAT
theorem zHQ {k : Ta} {n : Int} {j jv hz : Nat} {C : List Int} (h : k.Ok n j jv hz C) : Noted k.who C (k.cells j hz C) (k.ev j jv hz C):=by
 have h1:=h.len; have h2:=h.hj; have h3:=h.hjv; have h4:=h.hhz; have h5:=h.s0; have h6:=h.s1; have h7:=h.w0; have h8:=h.w1
 have a : j < C.length:=by omega
 have b : jv < C.length:=by omega
 have c : hz < C.length:=by omega
 unfold Ta.cells Ta.ev
 by_cases e0 : k.ph ≠ 0
 ·rw [if_pos e0,if_pos e0]
  exact zAT
 ·rw [if_neg e0,if_neg e0]
  by_cases e1 : k.next = 0
  ·rw [if_pos e1,if_pos e1]
   exact zAx c
  ·rw [if_neg e1,if_neg e1]
   by_cases e2 : k.next = 1
   ·rw [if_pos e2,if_pos e2]
    exact zAc a
   ·rw [if_neg e2,if_neg e2]
    by_cases e3 : k.next = 2
    ·rw [if_pos e3,if_pos e3]
     exact zAc b
    ·rw [if_neg e3,if_neg e3]
     by_cases e4 : k.next = 3
     ·rw [if_pos e4,if_pos e4]
      by_cases e5 : C.getD j 0 = k.word
      ·rw [if_pos e5,if_pos e5]
       exact zCk a e5
      ·rw [if_neg e5,if_neg e5]
       exact zDp a
     ·rw [if_neg e4,if_neg e4]
      exact zAx c
def Wk.by' (T : Wk) (who : Int) : Prop:=match T with
 | .pu k=>k.who = who
 | .ge k=>k.who = who ∧ k.sn.who = who ∧ ∀ a,k.ta = some a → a.who = who
section
variable {T : Wk} {P : Pl} {C : List Int} {who now z : Int}
theorem Wk.noted (h : T.Ok P C) (hw : T.by' who) : Noted who C (T.cells P C now) (T.ev P C now):=by
 cases T with
 | pu k =>
  have h1 : k.Ok P.N P.m P.nb P.h0 C:=h
  have hw' : k.who = who:=hw
  have s0:=h1.cl.s0; have s1:=h1.cl.s1; have m0:=h1.cl.m0; have m1:=h1.cl.m1; have hl:=h1.cl.len; have t1:=h1.cl.lay.t1
  have a : k.cl.slot.toNat < C.length:=by omega
  have b : P.N + k.cl.slot.toNat < C.length:=by omega
  show Noted who C (k.cells P.N P.nb C now) (k.ev P.N P.nb P.h0 C now)
  unfold Pu.cells Pu.ev
  by_cases e0 : k.ph ≠ 0
  ·rw [if_pos e0,if_pos e0]
   exact zAT
  ·rw [if_neg e0,if_neg e0]
   by_cases e1 : k.next = 0
   ·rw [if_pos e1,if_pos e1]
    have:=zHf h1.cl
    rw [h1.cw,hw'] at this
    exact this
   ·rw [if_neg e1,if_neg e1]
    by_cases e2 : k.next = 1
    ·rw [if_pos e2,if_pos e2]
     have:=zDk (now:=now) h1.tk
     rw [h1.tw,hw'] at this
     exact this
    ·rw [if_neg e2,if_neg e2]
     by_cases e3 : k.next = 2
     ·rw [if_pos e3,if_pos e3,hw']
      exact zAx b
     ·rw [if_neg e3,if_neg e3,hw']
      exact zAx a
 | ge k =>
  obtain ⟨w1,w2,w3⟩ : k.who = who ∧ k.sn.who = who ∧ ∀ a,k.ta = some a → a.who = who:=hw
  show Noted who C (k.cells P.N P.hw C) (k.ev P.N P.hw C)
  unfold Ge.cells Ge.ev
  by_cases e0 : k.ph ≠ 0
  ·rw [if_pos e0,if_pos e0]
   exact zAT
  ·rw [if_neg e0,if_neg e0]
   have hp : k.ph = 0:=Classical.not_not.1 e0
   cases hta : k.ta with
   | none =>
    have:=zHk (h.1.sn hp hta).1
    rw [w2] at this
    exact this
   | some a =>
    have:=zHQ (h.1.ta hp a hta).1
    rw [w3 a hta] at this
    exact this
theorem Sn.step_who (k : Sn) (C : List Int) : (k.step C).who = k.who:=by
 unfold Sn.step
 split
 ·split <;> rfl
 ·rfl
theorem Wk.by_step (h : T.by' who) : (T.step P C now z).by' who:=by
 cases T with
 | pu k =>
  have h' : k.who = who:=h
  exact (Pu.step_same k P.m P.nb P.h0 C now).who.trans h'
 | ge k =>
  obtain ⟨w1,w2,w3⟩ : k.who = who ∧ k.sn.who = who ∧ ∀ a,k.ta = some a → a.who = who:=h
  show (k.step P.N P.hw C z).who = who ∧ (k.step P.N P.hw C z).sn.who = who ∧ ∀ a,(k.step P.N P.hw C z).ta = some a → a.who = who
  unfold Ge.step
  split
  ·exact ⟨w1,w2,w3⟩
  ·split
   ·rename_i hta
    unfold Ge.read
    split
    ·exact ⟨w1,(Sn.step_who _ _).trans w2,w3⟩
    ·split
     ·exact ⟨w1,(Sn.step_who _ _).trans w2,w3⟩
     ·exact ⟨w1,(Sn.step_who _ _).trans w2,fun a ha=>by cases ha; exact w1⟩
   ·rename_i a hta
    have hs:=a.go_same a.slot.toNat (P.N + a.slot.toNat) C
    have ha:=w3 a hta
    unfold Ge.grab
    split
    ·exact ⟨w1,w2,fun b hb=>by cases hb; exact hs.who.trans ha⟩
    ·split
     ·exact ⟨w1,w1,fun b hb=>by cases hb⟩
     ·exact ⟨w1,w2,fun b hb=>by cases hb; exact hs.who.trans ha⟩
end
theorem zH4 {t s so d who e x start m : Int} {N : Nat} (take : Bool) : (wk0 t s so d who take e x start m N).by' who:=by
 cases take with
 | false=>rfl
 | true=>exact ⟨rfl,rfl,(fun a h=>by cases h)⟩
end
end
section
open Go.RowKit
structure Dd where
 who : Int
 kd : Int
 e : Int
 x : Int
 s : Int
 fr : Int
 till : Int
 ok : Bool
 v : Int
 lo : Int
 hi : Int
def Dd.list (d : Dd) : List Value:=[i64 d.who,i64 d.kd,i64 d.e,u64 d.x,i64 d.s,i64 d.fr,i64 d.till,.bool d.ok,u64 d.v,i64 d.lo,i64 d.hi]
def flatD : List Dd → List Value
 | []=>[]
 | d :: l=>d.list ++ flatD l
theorem zCC : ∀ a b : List Dd,flatD (a ++ b) = flatD a ++ flatD b
 | [],_=>rfl
 | d :: a,b=>by simp [flatD,zCC a b]
theorem zCA : ∀ l : List Dd,(flatD l).length = l.length * 11
 | []=>rfl
 | d :: l=>by simp only [flatD,List.length_append,List.length_cons,zCA l,Dd.list,List.length_nil]; omega
theorem Dd.one (d : Dd) (u : Value) (h : u ∈ d.list) : u.oneCell' = true:=by
 simp only [Dd.list,List.mem_cons,List.not_mem_nil,or_false] at h
 rcases h with rfl | rfl | rfl | rfl | rfl | rfl | rfl | rfl | rfl | rfl | rfl <;> rfl
theorem zD0 : ∀ (l : List Dd) (u : Value),u ∈ flatD l → u.oneCell' = true
 | [],_,h=>by cases h
 | d :: l,u,h=>by
  rw [flatD,List.mem_append] at h
  rcases h with h | h
  ·exact d.one u h
  ·exact zD0 l u h
theorem zDI : ∀ {l : List Dd} {i j : Nat} {d : Dd},l[i]? = some d → j < 11 → (flatD l)[i * 11 + j]? = d.list[j]?
 | [],i,j,d,h,hj=>by simp at h
 | e :: l,0,j,d,h,hj=>by
  cases h
  rw [flatD,Nat.zero_mul,Nat.zero_add,List.getElem?_append_left (by exact hj)]
 | e :: l,i + 1,j,d,h,hj=>by
  rw [List.getElem?_cons_succ] at h
  rw [flatD,List.getElem?_append_right (by show 11 ≤ _; omega),show (i + 1) * 11 + j - e.list.length = i * 11 + j by show (i + 1) * 11 + j - 11 = _; omega]
  exact zDI h hj
theorem zDf : ∀ {l : List Dd} {i : Nat} {d d' : Dd} (us : List (Nat × Value)),l[i]? = some d → (∀ a ∈ us,a.1 < 11) → us.foldl (fun x a=>x.set a.1 a.2) d.list = d'.list → us.foldl (fun x a=>x.set (i * 11 + a.1) a.2) (flatD l) = flatD (l.set i d')
 | [],i,d,d',us,h,_,_=>by simp at h
 | e :: l,0,d,d',us,h,hj,hu=>by
  cases h
  rw [List.set_cons_zero,flatD,flatD, ← hu]
  clear hu
  have key : ∀ (x : List Value),x.length = 11 → us.foldl (fun x a=>x.set (0 * 11 + a.1) a.2) (x ++ flatD l) = us.foldl (fun x a=>x.set a.1 a.2) x ++ flatD l:=by
   induction us with
   | nil=>intro x _; rfl
   | cons a us ih =>
    intro x hx
    have ha:=hj a (List.mem_cons_self)
    rw [List.foldl_cons,List.foldl_cons,Nat.zero_mul,Nat.zero_add,List.set_append_left _ _ (by omega)]
    exact ih (fun b hb=>hj b (List.mem_cons_of_mem _ hb)) _ (by rw [List.length_set]; exact hx)
  exact key _ rfl
 | e :: l,i + 1,d,d',us,h,hj,hu=>by
  rw [List.getElem?_cons_succ] at h
  rw [List.set_cons_succ,flatD,flatD, ← zDf us h hj hu]
  clear hu
  have key : ∀ (y : List Value),us.foldl (fun x a=>x.set ((i + 1) * 11 + a.1) a.2) (e.list ++ y) = e.list ++ us.foldl (fun x a=>x.set (i * 11 + a.1) a.2) y:=by
   induction us with
   | nil=>intro x; rfl
   | cons a us ih =>
    intro y
    have h11 : e.list.length = 11:=rfl
    rw [List.foldl_cons,List.foldl_cons,List.set_append_right _ _ (by omega),show (i + 1) * 11 + a.1 - e.list.length = i * 11 + a.1 by omega]
    exact ih (fun b hb=>hj b (List.mem_cons_of_mem _ hb)) _
  exact key _
theorem zBU {α : Type} {l : List α} {i : Nat} {f : α → α} {d : α} (h : l[i]? = some d) : l.modify i f = l.set i (f d):=by
 refine List.ext_getElem? (fun j=>?_)
 rw [List.getElem?_modify,List.getElem?_set]
 by_cases e : i = j
 ·subst e
  rw [h,if_pos rfl,if_pos (List.getElem?_eq_some_iff.1 h).1]
  simp
 ·rw [if_neg e]
  cases l[j]? <;> simp [e]
theorem zGy : ElemAt Tryz.prog 54 61 (.agg #[.int .i64 0,.int .i64 0,.int .i64 0,.int .u64 0,.int .i64 0,.int .i64 0,.int .i64 0,.bool false,.int .u64 0,.int .i64 0,.int .i64 0]) 11 88 :=
 ElemAt.mk' Tryz.underlying54 (by kernel_rfl) rfl (by decide)
structure AtDd (w : World) (b o : Nat) (d : Dd) : Prop where
 c0 : w.cell? ⟨b,o,none⟩ = some (i64 d.who)
 c1 : w.cell? ⟨b,o + 1,none⟩ = some (i64 d.kd)
 c2 : w.cell? ⟨b,o + 2,none⟩ = some (i64 d.e)
 c3 : w.cell? ⟨b,o + 3,none⟩ = some (u64 d.x)
 c4 : w.cell? ⟨b,o + 4,none⟩ = some (i64 d.s)
 c5 : w.cell? ⟨b,o + 5,none⟩ = some (i64 d.fr)
 c6 : w.cell? ⟨b,o + 6,none⟩ = some (i64 d.till)
 c7 : w.cell? ⟨b,o + 7,none⟩ = some (.bool d.ok)
 c8 : w.cell? ⟨b,o + 8,none⟩ = some (u64 d.v)
 c9 : w.cell? ⟨b,o + 9,none⟩ = some (i64 d.lo)
 c10 : w.cell? ⟨b,o + 10,none⟩ = some (i64 d.hi)
theorem AtDd.row {w : World} {base cap g i : Nat} {ds : List Dd} {d : Dd} (h : w.ownsRow base 61 11 (.slice (some ⟨g,0,none⟩) ds.length cap) ds.length (flatD ds)) (hd : ds[i]? = some d) : AtDd w g (i * 11) d :=
 have hi:=(List.getElem?_eq_some_iff.1 hd).1
 have k : ∀ j u,j < 11 → d.list[j]? = some u → w.cell? ⟨g,i * 11 + j,none⟩ = some u:=fun j u hj hu=>(h.cellAt _ (by omega)).trans ((zDI hd hj).trans hu)
 ⟨k 0 _ (by decide) rfl,k 1 _ (by decide) rfl,k 2 _ (by decide) rfl,k 3 _ (by decide) rfl,k 4 _ (by decide) rfl,k 5 _ (by decide) rfl,k 6 _ (by decide) rfl,k 7 _ (by decide) rfl,k 8 _ (by decide) rfl,k 9 _ (by decide) rfl,k 10 _ (by decide) rfl⟩
theorem zEN {w : World} {base : Nat} {e : TypeId} {sz n cap : Nat} {A : Option Addr} {xs : List Value} (h : w.ownsRow base e sz (.slice A n cap) n xs) : n ≤ cap:=by
 rcases h.2 with ⟨hv,h0⟩ | ⟨g,cap',cur,hv,_,_,hc,_⟩
 ·omega
 ·cases hv
  exact hc
theorem zHt {w : World} {base : Nat} {g cap : Nat} {L : List Dd} (h : w.ownsRow base 61 11 (.slice (some ⟨g,0,none⟩) L.length cap) L.length (flatD L)) : Src w 11 (some ⟨g,0,none⟩) L.length (flatD L) :=
 ⟨(fun h=>by cases h),zCA L,fun ad had j u hj=>by cases had; exact h.cells rfl j u hj,zD0 L⟩
structure Dd.Fit (d : Dd) : Prop where
 who : (Lit.int .i64 d.who).wf = true
 f0 : -9223372036854775808 ≤ d.fr
 f1 : d.fr ≤ 9223372036854775807
 t0 : -9223372036854775808 ≤ d.till
 t1 : d.till ≤ 9223372036854775807
def IsDds (w : World) (a0 : Option Addr) (len cap tb off : Nat) (l : List Dd) : Prop :=
 l.length = len ∧ len ≤ cap ∧ (0 < len → a0 = some ⟨tb,off,none⟩ ∧ tb < w.heap.size) ∧ ∀ (i : Nat) (d : Dd),l[i]? = some d → AtDd w tb (off + i * 11) d ∧ d.Fit
end
section
open Go.RowKit
structure Yd where
 C : List Int
 L : List Ev
 now : Int
 moves : Nat
 ts : List (Option (Wk × Nat))
 ds : List Dd
def yMax : Int:=1099511627776
def Yd.call (Y : Yd) (w : Nat) (kd e x s : Int) (T : Wk) : Yd :=
 { Y with moves:=Y.moves + 1,ts:=Y.ts.set w (some (T,Y.ds.length)),ds:=Y.ds ++ [⟨w,kd,e,x,s,Y.moves, -1,false,0,0,0⟩] }
def Dd.over (d : Dd) (m : Nat) (T : Wk) : Dd:=if T.ph = 1 then { d with till:=m,ok:=true,v:=(match T with | .pu _=>0 | .ge k=>k.val),lo:=(match T with | .pu k=>k.tk.lo | .ge _=>0),hi:=(match T with | .pu k=>k.tk.hi | .ge _=>0) } else { d with till:=m }
def Yd.tick (Y : Yd) : Int:=if Y.now < yMax then Y.now + 1 else yMax
def Yd.step (Y : Yd) (P : Pl) (w : Nat) (T : Wk) (i : Nat) (z : Int) : Yd :=
 ⟨T.cells P Y.C Y.now,Y.L ++ T.ev P Y.C Y.now,Y.tick,Y.moves + 1,
  if (T.step P Y.C Y.now z).ph = 0 then Y.ts.set w (some (T.step P Y.C Y.now z,i)) else Y.ts.set w none,
  if (T.step P Y.C Y.now z).ph = 0 then Y.ds else Y.ds.modify i (fun d=>d.over Y.moves (T.step P Y.C Y.now z))⟩
def Yd.pass (Y : Yd) (n : Int) : Yd := { Y with now:=if n > yMax - Y.now then yMax else Y.now + n }
inductive YMv (pl : Nat → Pl) (Y : Yd) : Yd → Prop
 | rest : YMv pl Y Y
 | call (w : Nat) (kd e x s : Int) (T : Wk) (hw : Y.ts[w]? = some none) (hk : T.Ok (pl w) Y.C) (h0 : T.few 0) (hb : T.by' w) (hp : T.ph = 0) (hr : (kd = 0 ∨ kd = 1) ∧ (e = 0 ∨ e = 1)) : YMv pl Y (Y.call w kd e x s T)
 | step (w : Nat) (T : Wk) (i : Nat) (z : Int) (hw : Y.ts[w]? = some (some (T,i))) (ha : T.ask Y.C z) : YMv pl Y (Y.step (pl w) w T i z)
 | pass (n : Int) (hn : 0 < n) : YMv pl Y (Y.pass n)
structure YOk (pl : Nat → Pl) (t n : Nat) (Y : Yd) : Prop where
 len : Y.ts.length = t
 task : ∀ (w : Nat) (T : Wk) (i : Nat),Y.ts[w]? = some (some (T,i)) → T.Ok (pl w) Y.C ∧ T.few n ∧ T.by' w ∧ T.ph = 0 ∧ ∃ d : Dd,Y.ds[i]? = some d ∧ d.who = w ∧ d.till = -1 ∧ d.ok = false ∧ d.v = 0 ∧ d.lo = 0 ∧ d.hi = 0
 now0 : 0 ≤ Y.now
 now1 : Y.now ≤ yMax
 deed : ∀ (i : Nat) (d : Dd),Y.ds[i]? = some d → (∃ w : Nat,d.who = w ∧ w < t ∧ (d.till = -1 → ∃ T,Y.ts[w]? = some (some (T,i)))) ∧ 0 ≤ d.fr ∧ d.fr < Y.moves ∧ (d.till ≠ -1 → d.fr < d.till ∧ d.till < Y.moves)
 order : ∀ (i j : Nat) (d d' : Dd),i < j → Y.ds[i]? = some d → Y.ds[j]? = some d' → d.fr < d'.fr ∧ (d.who = d'.who → d.till ≠ -1 ∧ d.till < d'.fr)
 most : Y.moves ≤ n
 nds : Y.ds.length ≤ Y.moves
 nL : Y.L.length ≤ Y.moves
section
variable {pl : Nat → Pl} {t n : Nat} {Y Y' : Yd}
theorem YOk.start (C : List Int) (t : Nat) : YOk pl t 0 ⟨C,[],0,0,List.replicate t none,[]⟩ :=
 ⟨List.length_replicate,(fun w T i h=>by
  rw [List.getElem?_replicate] at h
  split at h <;> cases h),Int.le_refl _,by show (0 : Int) ≤ yMax; decide,(fun i d h=>by simp at h),(fun i j d d' _ h=>by simp at h),Nat.le_refl _,Nat.le_refl _,Nat.le_refl _⟩
theorem Dd.over_same (d : Dd) (m : Nat) (T : Wk) : (d.over m T).who = d.who ∧ (d.over m T).kd = d.kd ∧ (d.over m T).e = d.e ∧ (d.over m T).x = d.x ∧ (d.over m T).s = d.s ∧ (d.over m T).fr = d.fr ∧ (d.over m T).till = m:=by
 unfold Dd.over
 split <;> exact ⟨rfl,rfl,rfl,rfl,rfl,rfl,rfl⟩
theorem Yd.tick_fit (h0 : 0 ≤ Y.now) (h1 : Y.now ≤ yMax) : 0 ≤ Y.tick ∧ Y.tick ≤ yMax:=by
 have e : yMax = 1099511627776:=rfl
 unfold Yd.tick
 split <;> omega
theorem zAz {ds : List Dd} {i : Nat} {f : Dd → Dd} {d : Dd} (h : ds[i]? = some d) : (ds.modify i f)[i]? = some (f d):=by
 rw [List.getElem?_modify,h]
 simp
theorem zBd {ds : List Dd} {i j : Nat} {f : Dd → Dd} (e : i ≠ j) : (ds.modify i f)[j]? = ds[j]?:=by
 rw [List.getElem?_modify]
 cases ds[j]? <;> simp [e]
theorem ymod {ds : List Dd} {i j : Nat} {f : Dd → Dd} {d : Dd} (h : (ds.modify i f)[j]? = some d) : (i = j ∧ ∃ d0,ds[j]? = some d0 ∧ d = f d0) ∨ (i ≠ j ∧ ds[j]? = some d):=by
 by_cases e : i = j
 ·subst e
  cases hd : ds[i]? with
  | none =>
   rw [List.getElem?_modify,hd] at h
   cases h
  | some d0 =>
   rw [zAz hd] at h
   cases h
   exact .inl ⟨rfl,d0,rfl,rfl⟩
 ·rw [zBd e] at h
  exact .inr ⟨e,h⟩
theorem yset {α : Type} {l : List α} {i j : Nat} {a b : α} (h : (l.set i a)[j]? = some b) : (i = j ∧ b = a ∧ j < l.length) ∨ (i ≠ j ∧ l[j]? = some b):=by
 rw [List.getElem?_set] at h
 split at h
 ·rename_i e
  split at h
  ·rename_i hl
   cases h
   exact .inl ⟨e,rfl,by omega⟩
  ·cases h
 ·rename_i e
  exact .inr ⟨e,h⟩
theorem ysnoc {α : Type} {l : List α} {j : Nat} {a b : α} (h : (l ++ [a])[j]? = some b) : (j = l.length ∧ b = a) ∨ (j < l.length ∧ l[j]? = some b):=by
 rcases Nat.lt_or_ge j l.length with hj | hj
 ·rw [List.getElem?_append_left hj] at h
  exact .inr ⟨hj,h⟩
 ·rw [List.getElem?_append_right hj] at h
  rcases (by omega : j - l.length = 0 ∨ 0 < j - l.length) with e | e
  ·rw [e] at h
   cases h
   exact .inl ⟨by omega,rfl⟩
  ·rw [List.getElem?_eq_none (by show 1 ≤ _; omega)] at h
   cases h
theorem YOk.next (h : YOk pl t n Y) (hm : YMv pl Y Y') (hn : n < 1000000) (hf : ∀ j,0 ≤ Y.C.getD j 0 ∧ Y.C.getD j 0 ≤ 18446744073709551615) : YOk pl t (n + 1) Y':=by
 obtain ⟨len,task,now0,now1,deed,order,most,nds,nL⟩:=id h
 cases hm with
 | rest=>exact ⟨len,fun w T i hw=>by obtain ⟨a,b,c⟩:=task w T i hw; exact ⟨a,b.mono (Nat.le_succ _),c⟩,now0,now1,deed,order,by omega,nds,nL⟩
 | pass k hk =>
  refine ⟨len,fun w T i hw=>by obtain ⟨a,b,c⟩:=task w T i hw; exact ⟨a,b.mono (Nat.le_succ _),c⟩, ?_, ?_,deed,order,by show Y.moves ≤ n + 1; omega,nds,nL⟩
  ·show (0 : Int) ≤ if k > yMax - Y.now then yMax else Y.now + k
   have e : yMax = 1099511627776:=rfl
   split <;> omega
  ·show (if k > yMax - Y.now then yMax else Y.now + k) ≤ yMax
   split <;> omega
 | call w kd e x s T hw hk h0 hb hp hr =>
  have hwl : w < Y.ts.length:=(List.getElem?_eq_some_iff.1 hw).1
  refine ⟨by show (Y.ts.set w _).length = t; rw [List.length_set]; exact len,fun w' T' i hw'=>?_,now0,now1,fun i d hd=>?_,fun i j d d' hij hd hd'=>?_,by show Y.moves + 1 ≤ n + 1; omega,by show (Y.ds ++ [_]).length ≤ Y.moves + 1; rw [List.length_append,List.length_singleton]; omega,by show Y.L.length ≤ Y.moves + 1; omega⟩
  ·rcases yset hw' with ⟨rfl,he,_⟩ | ⟨hne,hw2⟩
   ·cases he
    exact ⟨hk,h0.mono (Nat.zero_le _),hb,hp,_,by show (Y.ds ++ [_])[Y.ds.length]? = _; rw [List.getElem?_append_right (Nat.le_refl _),Nat.sub_self]; rfl,rfl,rfl,rfl,rfl,rfl,rfl⟩
   ·obtain ⟨a,b,c,d0,d,hd,hd2⟩:=task w' T' i hw2
    exact ⟨a,b.mono (Nat.le_succ _),c,d0,d,by show (Y.ds ++ [_])[i]? = _; rw [List.getElem?_append_left (List.getElem?_eq_some_iff.1 hd).1]; exact hd,hd2⟩
  ·rcases ysnoc hd with ⟨rfl,rfl⟩ | ⟨hi,hd⟩
   ·exact ⟨⟨w,rfl,by omega,fun _=>⟨T,List.getElem?_set_self hwl⟩⟩,by show (0 : Int) ≤ (Y.moves : Int); omega,by show (Y.moves : Int) < ((Y.moves + 1 : Nat) : Int); omega,fun h=>absurd rfl h⟩
   ·obtain ⟨⟨w',g1,g2,g3⟩,g4,g5,g6⟩:=deed i d hd
    refine ⟨⟨w',g1,g2,fun ht=>?_⟩,g4,by show d.fr < ((Y.moves + 1 : Nat) : Int); omega,fun ht=>by have:=g6 ht; exact ⟨this.1,by show d.till < ((Y.moves + 1 : Nat) : Int); omega⟩⟩
    obtain ⟨T',hT'⟩:=g3 ht
    refine ⟨T', ?_⟩
    show (Y.ts.set w _)[w']? = _
    rw [List.getElem?_set_ne (fun e=>by rw [e] at hw; rw [hw] at hT'; cases hT')]
    exact hT'
  ·rcases ysnoc hd' with ⟨rfl,rfl⟩ | ⟨hj,hd'⟩
   ·rcases ysnoc hd with ⟨rfl,rfl⟩ | ⟨hi,hd⟩
    ·omega
    ·obtain ⟨⟨w',g1,g2,g3⟩,g4,g5,g6⟩:=deed i d hd
     refine ⟨g5,fun he=>?_⟩
     have hww : w' = w:=by
      have he' : d.who = (w : Int):=he
      omega
     have ht : d.till ≠ -1:=fun ht=>by
      obtain ⟨T',hT'⟩:=g3 ht
      rw [hww,hw] at hT'
      cases hT'
     exact ⟨ht,(g6 ht).2⟩
   ·rcases ysnoc hd with ⟨rfl,rfl⟩ | ⟨hi,hd⟩
    ·omega
    ·exact order i j d d' hij hd hd'
 | step w T i z hw ha =>
  have hwl : w < Y.ts.length:=(List.getElem?_eq_some_iff.1 hw).1
  obtain ⟨k1,k2,k3,k4,d0,k5,k6,k7⟩:=task w T i hw
  obtain ⟨o1,o2⟩:=k1.next k2 hn ha now0 hf
  have o3 : (T.step (pl w) Y.C Y.now z).by' w:=Wk.by_step k3
  have hcl : (T.cells (pl w) Y.C Y.now).length = Y.C.length:=Wk.cells_len
  have hev : (T.ev (pl w) Y.C Y.now).length ≤ 1:=Wk.ev_le
  have htick:=Yd.tick_fit now0 now1
  have huni : ∀ w' T',Y.ts[w']? = some (some (T',i)) → w' = w:=fun w' T' h'=>by
   obtain ⟨_,_,_,_,d',g1,g2,_⟩:=task w' T' i h'
   rw [k5] at g1
   cases g1
   omega
  unfold Yd.step
  generalize T.step (pl w) Y.C Y.now z = T2 at o1 o2 o3 ⊢
  generalize T.cells (pl w) Y.C Y.now = C2 at o1 hcl ⊢
  generalize T.ev (pl w) Y.C Y.now = E at hev ⊢
  have hL : (Y.L ++ E).length ≤ Y.moves + 1:=by rw [List.length_append]; omega
  by_cases hp : T2.ph = 0
  ·rw [if_pos hp,if_pos hp]
   refine ⟨by show (Y.ts.set w _).length = t; rw [List.length_set]; exact len,fun w' T' i' hw'=>?_,htick.1,htick.2,fun i' d hd=>?_,order,by show Y.moves + 1 ≤ n + 1; omega,by show Y.ds.length ≤ Y.moves + 1; omega,hL⟩
   ·rcases yset hw' with ⟨rfl,he,_⟩ | ⟨hne,hw2⟩
    ·cases he
     exact ⟨o1,o2,o3,hp,d0,k5,k6,k7⟩
    ·obtain ⟨a,b,c⟩:=task w' T' i' hw2
     exact ⟨a.cells hcl,b.mono (Nat.le_succ _),c⟩
   ·obtain ⟨⟨w',g1,g2,g3⟩,g4,g5,g6⟩:=deed i' d hd
    refine ⟨⟨w',g1,g2,fun ht=>?_⟩,g4,by show d.fr < ((Y.moves + 1 : Nat) : Int); omega,fun ht=>by have:=g6 ht; exact ⟨this.1,by show d.till < ((Y.moves + 1 : Nat) : Int); omega⟩⟩
    obtain ⟨T',hT'⟩:=g3 ht
    by_cases hww : w = w'
    ·subst hww
     rw [hw] at hT'
     cases hT'
     exact ⟨T2,List.getElem?_set_self hwl⟩
    ·exact ⟨T',by show (Y.ts.set w _)[w']? = _; rw [List.getElem?_set_ne hww]; exact hT'⟩
  ·rw [if_neg hp,if_neg hp]
   refine ⟨by show (Y.ts.set w _).length = t; rw [List.length_set]; exact len,fun w' T' i' hw'=>?_,htick.1,htick.2,fun i' d hd=>?_,fun i1 j1 d d' hij hd hd'=>?_,by show Y.moves + 1 ≤ n + 1; omega,by show (Y.ds.modify i _).length ≤ Y.moves + 1; rw [List.length_modify]; omega,hL⟩
   ·rcases yset hw' with ⟨rfl,he,_⟩ | ⟨hne,hw2⟩
    ·cases he
    ·obtain ⟨a,b,c,c2,d,hd,hd2⟩:=task w' T' i' hw2
     have hii : i ≠ i':=fun e=>by
      subst e
      exact hne (huni w' T' hw2).symm
     exact ⟨a.cells hcl,b.mono (Nat.le_succ _),c,c2,d,by show (Y.ds.modify i _)[i']? = _; rw [zBd hii]; exact hd,hd2⟩
   ·rcases ymod hd with ⟨rfl,d1,hd1,rfl⟩ | ⟨hne,hd⟩
    ·rw [k5] at hd1
     cases hd1
     obtain ⟨s1,_,_,_,_,s6,s7⟩:=Dd.over_same d0 Y.moves T2
     obtain ⟨⟨w',g1,g2,g3⟩,g4,g5,g6⟩:=deed i d0 k5
     refine ⟨⟨w',s1.trans g1,g2,fun ht=>?_⟩,by rw [s6]; exact g4,by rw [s6]; show d0.fr < ((Y.moves + 1 : Nat) : Int); omega,fun _=>?_⟩
     ·rw [s7] at ht
      omega
     ·rw [s6,s7]
      exact ⟨g5,by show (Y.moves : Int) < ((Y.moves + 1 : Nat) : Int); omega⟩
    ·obtain ⟨⟨w',g1,g2,g3⟩,g4,g5,g6⟩:=deed i' d hd
     refine ⟨⟨w',g1,g2,fun ht=>?_⟩,g4,by show d.fr < ((Y.moves + 1 : Nat) : Int); omega,fun ht=>by have:=g6 ht; exact ⟨this.1,by show d.till < ((Y.moves + 1 : Nat) : Int); omega⟩⟩
     obtain ⟨T',hT'⟩:=g3 ht
     by_cases hww : w = w'
     ·subst hww
      rw [hw] at hT'
      cases hT'
      exact absurd rfl hne
     ·exact ⟨T',by show (Y.ts.set w _)[w']? = _; rw [List.getElem?_set_ne hww]; exact hT'⟩
   ·have hset : ∀ {j2 : Nat} {d2 : Dd},(Y.ds.modify i (fun d=>d.over Y.moves T2))[j2]? = some d2 → ∃ d3,Y.ds[j2]? = some d3 ∧ d2.fr = d3.fr ∧ d2.who = d3.who ∧ (d2.till = d3.till ∨ (j2 = i ∧ d3.till = -1)):=fun {j2 d2} h2=>by
     rcases ymod h2 with ⟨rfl,d1,hd1,rfl⟩ | ⟨hne,h3⟩
     ·obtain ⟨s1,_,_,_,_,s6,s7⟩:=Dd.over_same d1 Y.moves T2
      refine ⟨d1,hd1,s6,s1,.inr ⟨rfl, ?_⟩⟩
      rw [k5] at hd1
      cases hd1
      exact k7.1
     ·exact ⟨d2,h3,rfl,rfl,.inl rfl⟩
    obtain ⟨e1,f1,f2,f3,f4⟩:=hset hd
    obtain ⟨e2,p1,p2,p3,p4⟩:=hset hd'
    obtain ⟨q1,q2⟩:=order i1 j1 e1 e2 hij f1 p1
    refine ⟨by rw [f2,p2]; exact q1,fun he=>?_⟩
    obtain ⟨r1,r2⟩:=q2 (by rw [← f3, ← p3]; exact he)
    rcases f4 with f4 | ⟨_,f4⟩
    ·rw [f4,p2]
     exact ⟨r1,r2⟩
    ·exact absurd f4 r1
theorem YMv.noted (h : YOk pl t n Y) (hm : YMv pl Y Y') : ∃ (w : Nat) (E : List Ev),Noted w Y.C Y'.C E ∧ Y'.L = Y.L ++ E ∧ (E ≠ [] → ∃ T i z,Y.ts[w]? = some (some (T,i)) ∧ Y' = Y.step (pl w) w T i z):=by
 cases hm with
 | rest=>exact ⟨0,[],zAT,(List.append_nil _).symm,fun h=>absurd rfl h⟩
 | pass k hk=>exact ⟨0,[],zAT,(List.append_nil _).symm,fun h=>absurd rfl h⟩
 | call w kd e x s T hw hk h0 hb hp hr=>exact ⟨0,[],zAT,(List.append_nil _).symm,fun h=>absurd rfl h⟩
 | step w T i z hw ha =>
  obtain ⟨k1,k2,k3,k4,d0,k5,k6,k7⟩:=h.task w T i hw
  exact ⟨w,_,Wk.noted k1 k3,rfl,fun _=>⟨T,i,z,hw,rfl⟩⟩
structure YLater (Y Y' : Yd) : Prop where
 deed : ∀ (i : Nat) (d : Dd),Y.ds[i]? = some d → ∃ d',Y'.ds[i]? = some d' ∧ d'.who = d.who ∧ d'.kd = d.kd ∧ d'.e = d.e ∧ d'.x = d.x ∧ d'.s = d.s ∧ d'.fr = d.fr ∧ (d.till ≠ -1 → d' = d)
 log : ∃ E,Y'.L = Y.L ++ E
theorem YLater.refl (Y : Yd) : YLater Y Y:=⟨fun i d h=>⟨d,h,rfl,rfl,rfl,rfl,rfl,rfl,fun _=>rfl⟩,[],(List.append_nil _).symm⟩
theorem YLater.trans {A B D : Yd} (h : YLater A B) (k : YLater B D) : YLater A D:=by
 obtain ⟨E,hE⟩:=h.log
 obtain ⟨F,hF⟩:=k.log
 refine ⟨fun i d hd=>?_,E ++ F,by rw [hF,hE,List.append_assoc]⟩
 obtain ⟨d',a,b1,b2,b3,b4,b5,b6,b7⟩:=h.deed i d hd
 obtain ⟨d2,a',c1,c2,c3,c4,c5,c6,c7⟩:=k.deed i d' a
 exact ⟨d2,a',c1.trans b1,c2.trans b2,c3.trans b3,c4.trans b4,c5.trans b5,c6.trans b6,fun ht=>by have e:=b7 ht; rw [c7 (by rw [e]; exact ht),e]⟩
theorem YMv.later (h : YOk pl t n Y) (hm : YMv pl Y Y') : YLater Y Y':=by
 obtain ⟨w0,E,_,hE,_⟩:=hm.noted h
 refine ⟨fun i' d hd=>?_,E,hE⟩
 cases hm with
 | rest=>exact ⟨d,hd,rfl,rfl,rfl,rfl,rfl,rfl,fun _=>rfl⟩
 | pass k hk=>exact ⟨d,hd,rfl,rfl,rfl,rfl,rfl,rfl,fun _=>rfl⟩
 | call w kd e x s T hw hk h0 hb hp hr=>exact ⟨d,by show (Y.ds ++ [_])[i']? = _; rw [List.getElem?_append_left (List.getElem?_eq_some_iff.1 hd).1]; exact hd,rfl,rfl,rfl,rfl,rfl,rfl,fun _=>rfl⟩
 | step w T i z hw ha =>
  obtain ⟨k1,k2,k3,k4,d0,k5,k6,k7⟩:=h.task w T i hw
  unfold Yd.step
  by_cases hp : (T.step (pl w) Y.C Y.now z).ph = 0
  ·rw [if_pos hp,if_pos hp]
   exact ⟨d,hd,rfl,rfl,rfl,rfl,rfl,rfl,fun _=>rfl⟩
  ·rw [if_neg hp,if_neg hp]
   show ∃ d',(Y.ds.modify i _)[i']? = some d' ∧ _
   by_cases e : i = i'
   ·subst e
    rw [k5] at hd
    obtain rfl : d0 = d:=by injection hd
    obtain ⟨s1,s2,s3,s4,s5,s6,_⟩:=Dd.over_same d0 Y.moves (T.step (pl w) Y.C Y.now z)
    exact ⟨_,zAz k5,s1,s2,s3,s4,s5,s6,fun ht=>absurd k7.1 ht⟩
   ·exact ⟨d,by rw [zBd e]; exact hd,rfl,rfl,rfl,rfl,rfl,rfl,fun _=>rfl⟩
end
end
section
open Go.RowKit
theorem Dd.over_reply (d : Dd) (m : Nat) (T : Wk) (h : d.ok = false ∧ d.v = 0 ∧ d.lo = 0 ∧ d.hi = 0) : T.reply = replyV (d.over m T).ok (d.over m T).v (d.over m T).lo (d.over m T).hi:=by
 obtain ⟨h1,h2,h3,h4⟩:=h
 unfold Dd.over
 cases T with
 | pu k =>
  show k.reply = _
  unfold Pu.reply
  by_cases hp : k.ph = 1
  ·rw [if_pos hp,if_pos (show (Wk.pu k).ph = 1 from hp)]
  ·rw [if_neg hp,if_neg (show ¬ (Wk.pu k).ph = 1 from hp),h1,h2,h3,h4]
 | ge k =>
  show k.reply = _
  unfold Ge.reply
  by_cases hp : k.ph = 1
  ·rw [if_pos hp,if_pos (show (Wk.ge k).ph = 1 from hp)]
  ·rw [if_neg hp,if_neg (show ¬ (Wk.ge k).ph = 1 from hp),h1,h2,h3,h4]
end
end Go.Proofs.YtjlpidjilonhfaaGreat
