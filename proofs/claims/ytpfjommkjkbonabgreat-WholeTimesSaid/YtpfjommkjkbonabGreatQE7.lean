/- Contracts and plain lemmas that these laws need. No condition. -/
import Derived.Deep.DeepCutAuto
import Derived.Test.YtpfjommkjkbonabGreatQE1
import Derived.Test.YtpfjommkjkbonabGreatQE3
import Derived.Test.YtpfjommkjkbonabGreatQE6
namespace Go.Proofs.YtpfjommkjkbonabGreat
set_option linter.unusedVariables false
set_option maxHeartbeats 8000000
set_option maxRecDepth 100000
section
open Go.RowKit
section
structure Pu where
 t : Int
 s : Int
 so : Int
 d : Int
 who : Int
 e : Int
 value : Int
 next : Int
 ph : Int
 cl : Cl
 tk : Tk
abbrev Pu.list (k : Pu) (b1 b2 : Nat) : List Value := [i64 k.t, i64 k.s, i64 k.so, i64 k.d, i64 k.who, i64 k.e, u64 k.value, i64 k.next, pt b1, pt b2, i64 k.ph]
structure AtPu (w : World) (b b1 b2 : Nat) (k : Pu) : Prop where
 c0 : w.cell? ⟨b, 0, none⟩ = some (i64 k.t)
 c1 : w.cell? ⟨b, 1, none⟩ = some (i64 k.s)
 c2 : w.cell? ⟨b, 2, none⟩ = some (i64 k.so)
 c3 : w.cell? ⟨b, 3, none⟩ = some (i64 k.d)
 c4 : w.cell? ⟨b, 4, none⟩ = some (i64 k.who)
 c5 : w.cell? ⟨b, 5, none⟩ = some (i64 k.e)
 c6 : w.cell? ⟨b, 6, none⟩ = some (u64 k.value)
 c7 : w.cell? ⟨b, 7, none⟩ = some (i64 k.next)
 c8 : w.cell? ⟨b, 8, none⟩ = some (pt b1)
 c9 : w.cell? ⟨b, 9, none⟩ = some (pt b2)
 c10 : w.cell? ⟨b, 10, none⟩ = some (i64 k.ph)
theorem IsObj.pu {w : World} {b b1 b2 : Nat} {k : Pu} (h : IsObj w b (k.list b1 b2)) : AtPu w b b1 b2 k :=
 ⟨h.at' 0 _ rfl, h.at' 1 _ rfl, h.at' 2 _ rfl, h.at' 3 _ rfl, h.at' 4 _ rfl, h.at' 5 _ rfl, h.at' 6 _ rfl, h.at' 7 _ rfl, h.at' 8 _ rfl, h.at' 9 _ rfl, h.at' 10 _ rfl⟩
structure IsPu (w : World) (b b1 b2 : Nat) (k : Pu) : Prop where
 obj : IsObj w b (k.list b1 b2)
 cl : IsObj w b1 k.cl.list
 tk : IsTk w b2 k.tk
 n1 : b ≠ b1
 n2 : b ≠ b2
 n3 : b1 ≠ b2
def PuB (b b1 b2 : Nat) (i : Nat) : Prop := i = b ∨ i = b1 ∨ i = b2
theorem IsPu.keep {w w' : World} {b b1 b2 : Nat} {k : Pu} {T : Nat → Prop} (h : IsPu w b b1 b2 k) (e : Keep T w w') (h0 : ¬ T b) (h1 : ¬ T b1) (h2 : ¬ T b2) : IsPu w' b b1 b2 k :=
 ⟨h.obj.keep e h0, h.cl.keep e h1, h.tk.keep e h2, h.n1, h.n2, h.n3⟩
theorem IsPu.later {w w' : World} {b b1 b2 : Nat} {k : Pu} (h : IsPu w b b1 b2 k) (e : Below w.heap.size w w') : IsPu w' b b1 b2 k :=
 h.keep (T := fun _ => False) (Keep.of_below e) (fun h => h) (fun h => h) (fun h => h)
theorem IsPu.drew {w : World} {b b1 b2 : Nat} {k : Pu} (h : IsPu w b b1 b2 k) : IsPu w.drew b b1 b2 k := ⟨h.obj.drew, h.cl.drew, h.tk.drew, h.n1, h.n2, h.n3⟩
theorem IsPu.lt {w : World} {b b1 b2 : Nat} {k : Pu} (h : IsPu w b b1 b2 k) : ∀ i, PuB b b1 b2 i → i < w.heap.size := by
 rintro i (rfl | rfl | rfl)
 ·exact h.obj.lt
 ·exact h.cl.lt
 ·exact h.tk.lt
theorem Does.wide {B B' : Nat → Prop} {base : Nat} {w w1 : World} {p c : Nat} {v v1 : Value} {C1 : List Int} {L1 : List Ev} (h : Does B base w w1 p c v v1 C1 L1) (hB : ∀ i, B i → B' i) (ha : ∀ i, B' i → ¬ Foot p c v i) (hlt : ∀ i, B' i → i < w.heap.size) : Does B' base w w1 p c v v1 C1 L1 :=
 ⟨h.mem, fun i hi hf => by
  rcases hf with h1 | h1 | h1
  ·exact ha i hi (.inl h1)
  ·exact ha i hi (.inr (.inl h1))
  ·rcases h.moved i h1 with h2 | h2
   ·exact ha i hi (.inr (.inr h2))
   ·have := hlt i hi
    omega, h.keep.mono (fun i hi => hi.imp (hB i) id), h.moved, h.size⟩
theorem Does.aside {B T : Nat → Prop} {base : Nat} {w w1 w2 : World} {p c : Nat} {v v1 : Value} {C1 : List Int} {L1 : List Ev} (h : Does B base w w1 p c v v1 C1 L1) (k : Keep T w1 w2) (hf : ∀ i, Foot p c v1 i → ¬ T i) (hn : ∀ i, T i → w.heap.size ≤ i) : Does B base w w2 p c v v1 C1 L1 :=
 ⟨h.mem.keep k hf, h.apart, h.keep.then' k (fun i hi => .inr (hn i hi)), h.moved, Nat.le_trans h.size k.size⟩
theorem Stepped.does {base : Nat} {w w' : World} {b p c : Nat} {v v' : Value} {k' : Tk} {C' : List Int} {L' : List Ev} (h : Stepped base w w' b p c v v' k' C' L') : Does (· = b) base w w' p c v v' C' L' :=
 ⟨h.mem, fun i hi => hi ▸ h.apart, h.keep, h.moved, h.size⟩
def Pu.after (k : Pu) (r : Int) : Pu := if r = 1 then { k with next := k.next + 1 } else if r = 2 then { k with ph := 2 } else k
theorem Pu.after_cl (k : Pu) (r : Int) : (k.after r).cl = k.cl := by
 unfold Pu.after
 split
 ·rfl
 ·split <;> rfl
theorem Pu.after_tk (k : Pu) (r : Int) : (k.after r).tk = k.tk := by
 unfold Pu.after
 split
 ·rfl
 ·split <;> rfl
def Pu.pack (k : Pu) : Int := 1 + 4 * k.e + 8 * (k.cl.wg + 1) + 65536 * k.tk.lo + 1099511627776 * k.tk.hi
def Pu.step (k : Pu) (m : Int) (nb hz : Nat) (C : List Int) (now : Int) : Pu :=
 if k.ph ≠ 0 then k else if k.next = 0 then ({ k with cl := k.cl.step m hz C } : Pu).after (k.cl.step m hz C).ph else if k.next = 1 then ({ k with tk := (stp nb k.tk C now).1 } : Pu).after (stp nb k.tk C now).1.ph
 else if k.next = 2 then { k with next := 3 } else { k with ph := 1 }
def Pu.cells (k : Pu) (N nb : Nat) (C : List Int) (now : Int) : List Int :=
 if k.ph ≠ 0 then C else if k.next = 0 then C else if k.next = 1 then (stp nb k.tk C now).2.1 else if k.next = 2 then C.set (N + k.cl.slot.toNat) k.value else C.set k.cl.slot.toNat k.pack
def Pu.ev (k : Pu) (N nb hz : Nat) (C : List Int) (now : Int) : List Ev :=
 if k.ph ≠ 0 then [] else if k.next = 0 then k.cl.ev hz C else if k.next = 1 then (stp nb k.tk C now).2.2.toList
 else if k.next = 2 then [⟨k.who, 1, (N + k.cl.slot.toNat : Nat), C.getD (N + k.cl.slot.toNat) 0, k.value, true⟩] else [⟨k.who, 1, (k.cl.slot.toNat : Nat), C.getD k.cl.slot.toNat 0, k.pack, true⟩]
structure Pu.Ok (k : Pu) (N : Nat) (m : Int) (nb hz : Nat) (C : List Int) : Prop where
 cl : k.cl.Ok N m hz C
 tk : k.tk.Ok nb N C
 ct : k.cl.t = k.t
 cs : k.cl.s = k.s
 cw : k.cl.who = k.who
 tt : k.tk.t = k.t
 ts : k.tk.s = k.s
 tw : k.tk.who = k.who
 wg : k.cl.ph = 1 ∨ 1 ≤ k.cl.steps → 0 ≤ k.cl.wg ∧ k.cl.wg ≤ 8190
 st : k.tk.ph = 1 → 0 ≤ k.tk.lo ∧ k.tk.lo ≤ k.tk.hi ∧ k.tk.hi < 16777215
 e0 : 0 ≤ k.e
 e1 : k.e ≤ 1
 v0 : 0 ≤ k.value
 v1 : k.value ≤ 18446744073709551615
 at' : k.ph = 0 → (k.next = 0 ∧ k.cl.ph = 0 ∧ k.tk.ph = 0) ∨ (k.next = 1 ∧ k.cl.ph = 1 ∧ k.tk.ph = 0) ∨ (k.next = 2 ∧ k.cl.ph = 1 ∧ k.tk.ph = 1) ∨ (k.next = 3 ∧ k.cl.ph = 1 ∧ k.tk.ph = 1)
 tm : k.tk.ph = 0 → k.tk.steps < most k.t k.tk.so k.tk.d
def PuPost (base : Nat) (w : World) (b b1 b2 p c : Nat) (v : Value) (k' : Pu) (C' : List Int) (L' : List Ev) (e0 : Ending) (e : Ending) (w' : World) : Prop :=
 e = e0 ∧ ∃ v', Does (PuB b b1 b2) base w w' p c v v' C' L' ∧ IsPu w' b b1 b2 k'
theorem zDQ (s e g lo hi e' lo' hi' : Int) (w : World) (h0 : 0 ≤ g) (h1 : g ≤ 8190) :
  Calls Tryz.prog 112 #[wd s e g lo hi, i64 e', st lo' hi'] w fun r w' => r = .returned (wd 1 e' (g + 1) lo' hi') ∧ Below w.heap.size w w' := by
 have h := zHF s e g lo hi e' lo' hi' w
 rw [show wrap64 (g + 1) = g + 1 by unfold wrap64; omega] at h
 exact h
theorem zGH (t s so d n i : Int) (j : Nat) (w : World) (h : Lay t s n) (i0 : 0 ≤ i) (i1 : i ≤ n) (hj : n + i = (j : Int)) :
  Calls Tryz.prog 78 #[cf t s so d, i64 i] w fun r w' => r = .returned (i64 j) ∧ Below w.heap.size w w' := by
 rw [← hj]
 exact zCw t s so d n i w h i0 i1
theorem zHE (t s so d i : Int) (j : Nat) (w : World) (hj : i = (j : Int)) :
  Calls Tryz.prog 61 #[cf t s so d, i64 i] w fun r w' => r = .returned (i64 j) ∧ Below w.heap.size w w' := by
 rw [← hj]
 exact zAb t s so d i w
theorem zIn (s e g lo hi x : Int) (w : World) (h : 0 ≤ s ∧ s ≤ 2 ∧ 0 ≤ e ∧ e ≤ 1 ∧ 0 ≤ g ∧ g ≤ 8191 ∧ 0 ≤ lo ∧ lo ≤ 16777215 ∧ 0 ≤ hi ∧ hi ≤ 16777215) (hx : s + 4 * e + 8 * g + 65536 * lo + 1099511627776 * hi = x) :
  Calls Tryz.prog 125 #[wd s e g lo hi] w fun r w' => r = .returned (u64 x) ∧ Below w.heap.size w w' := hx ▸ zBz s e g lo hi w h
theorem zCU (w : World) (b b1 b2 : Nat) (k : Pu) (q : Int) (n0 : 0 ≤ k.next) (n1 : k.next ≤ 3) (hT : IsObj w b (k.list b1 b2)) :
  Calls Tryz.prog 118 #[pt b, i64 q] w fun r w' => r = .returned (.tuple #[]) ∧ IsObj w' b ((k.after q).list b1 b2) ∧ Keep (· = b) w w' := by
 have HT := zIt hT
 obtain ⟨c0, c1, c2, c3, c4, c5, c6, c7, c8, c9, c10⟩ := hT.pu
 have f7 := hT.fz 7
 have f10 := hT.fz 10
 have e1 : wrap64 (k.next + 1) = k.next + 1 := by unfold wrap64; omega
 clear hT
 unfold Pu.after
 by_cases h1 : q = 1
 ·have q1 : (q == 1) = true := by simp [h1]
  rw [if_pos h1]
  clear h1
  go_enter Tryz.func118, Tryz.ntmps118
  go_wp2
  go_end0
  exact ⟨rfl, HT.out.set 7 (.int .i64 (k.next + 1)), (Keep.refl _ _).own 7 _⟩
 ·by_cases h2 : q = 2
  ·have q1 : (q == 1) = false := by simp [h1]
   have q2 : (q == 2) = true := by simp [h2]
   rw [if_neg h1, if_pos h2]
   clear h1 h2
   go_enter Tryz.func118, Tryz.ntmps118
   go_wp2
   go_end0
   exact ⟨rfl, HT.out.set 10 (.int .i64 2), (Keep.refl _ _).own 10 _⟩
  ·have q1 : (q == 1) = false := by simp [h1]
   have q2 : (q == 2) = false := by simp [h2]
   rw [if_neg h1, if_neg h2]
   clear h1 h2
   go_enter Tryz.func118, Tryz.ntmps118
   go_wp2
   go_end0
   exact ⟨rfl, HT.out, Keep.refl _ _⟩
section
variable (base : Nat) (w : World) (b b1 b2 p c : Nat) (v : Value) (C : List Int) (L : List Ev) (k : Pu) (N : Nat) (m : Int) (nb hz : Nat) (now : Int)
theorem zG5 (hp : k.ph ≠ 0) (hT : IsPu w b b1 b2 k) (hM : IsMem base w p c v C L) (ha : ∀ i, PuB b b1 b2 i → ¬ Foot p c v i) (hb : base ≤ w.heap.size) :
  Calls Tryz.prog 94 #[pt b, pt p, i64 now] w (PuPost base w b b1 b2 p c v k C L (.returned (i64 k.ph))) := by
 have qp : (k.ph != 0) = true := by simp [hp]
 have HS := zIt (Does.refl (B := PuB b b1 b2) hM ha hb)
 have HT := zIt hT
 obtain ⟨c0, c1, c2, c3, c4, c5, c6, c7, c8, c9, c10⟩ := hT.obj.pu
 clear hT hM ha hp
 go_enter Tryz.func94, Tryz.ntmps94
 go_wp2
 go_ret
 exact ⟨rfl, _, HS.out, HT.out⟩
theorem zHG (k1 : Cl) (C1 : List Int) (L1 : List Ev) (hp : k.ph = 0) (hn : k.next = 0) (hT : IsPu w b b1 b2 k) (ha : ∀ i, PuB b b1 b2 i → ¬ Foot p c v i)
  (hin : Calls Tryz.prog 119 #[pt b1, pt p] w (ClPost base w b1 p c v k1 C1 L1 (.returned (i64 k1.ph)))) :
  Calls Tryz.prog 94 #[pt b, pt p, i64 now] w (PuPost base w b b1 b2 p c v (({ k with cl := k1 } : Pu).after k1.ph) C1 L1 (.returned (i64 (({ k with cl := k1 } : Pu).after k1.ph).ph))) := by
 have qp : (k.ph != 0) = false := by simp [hp]
 have q0 : (k.next == 0) = true := by simp [hn]
 have HIN := zIt hin
 have HT := zIt hT
 have HA := zIt ha
 have Hn := zIt hn
 obtain ⟨c0, c1, c2, c3, c4, c5, c6, c7, c8, c9, c10⟩ := hT.obj.pu
 clear hT ha hin hp hn
 go_enter Tryz.func94, Tryz.ntmps94
 go_wp2_with fail
 refine HIN.out.mono ?_
 rintro r w1 ⟨rfl, v1, hD, hO⟩
 have HP : Hid (IsPu w1 b b1 b2 { k with cl := k1 }) := ⟨HT.out.obj.keep hD.keep (fun h => h.elim HT.out.n1 (HA.out b (.inl rfl))), hO, HT.out.tk.keep hD.keep (fun h => h.elim (fun h => HT.out.n3 h.symm) (HA.out b2 (.inr (.inr rfl)))), HT.out.n1, HT.out.n2, HT.out.n3⟩
 have HS := zIt (hD.wide (B' := PuB b b1 b2) (fun i hi => .inr (.inl hi)) HA.out HT.out.lt)
 clear hD hO c0 c1 c2 c3 c4 c5 c6 c7 c8 c9 c10
 go_wp2_with fail
 refine (zCU w1 b b1 b2 { k with cl := k1 } k1.ph (by have := Hn.out; show 0 ≤ k.next; omega) (by have := Hn.out; show k.next ≤ 3; omega) HP.out.obj).mono ?_
 rintro r w2 ⟨rfl, hO2, hK2⟩
 obtain ⟨k2, hk2, hk2c, hk2t⟩ : ∃ k2 : Pu, ({ k with cl := k1 } : Pu).after k1.ph = k2 ∧ k2.cl = k1 ∧ k2.tk = k.tk := ⟨_, rfl, Pu.after_cl _ _, Pu.after_tk _ _⟩
 rw [hk2] at hO2 ⊢
 have HP2 : Hid (IsPu w2 b b1 b2 k2) := ⟨hO2, hk2c ▸ HP.out.cl.keep hK2 (fun h => HT.out.n1 h.symm), hk2t ▸ HP.out.tk.keep hK2 (fun h => HT.out.n2 h.symm), HT.out.n1, HT.out.n2, HT.out.n3⟩
 replace HS := zIt (HS.out.own (hK2.mono (fun i hi => .inl hi)))
 have HK2 := zIt hk2
 clear hk2 hk2c hk2t hO2 hK2 HP
 obtain ⟨c0, c1, c2, c3, c4, c5, c6, c7, c8, c9, c10⟩ := HP2.out.obj.pu
 go_wp2
 go_ret
 rw [HK2.out]
 exact ⟨rfl, _, HS.out, HP2.out⟩
theorem zHC (k1 : Tk) (C1 : List Int) (L1 : List Ev) (hp : k.ph = 0) (hn : k.next = 1) (hT : IsPu w b b1 b2 k) (ha : ∀ i, PuB b b1 b2 i → ¬ Foot p c v i)
  (hin : Calls Tryz.prog 120 #[pt b2, pt p, i64 now] w (TickPost base w b2 p c v k1 C1 L1 (.returned (i64 k1.ph)))) :
  Calls Tryz.prog 94 #[pt b, pt p, i64 now] w (PuPost base w b b1 b2 p c v (({ k with tk := k1 } : Pu).after k1.ph) C1 L1 (.returned (i64 (({ k with tk := k1 } : Pu).after k1.ph).ph))) := by
 have qp : (k.ph != 0) = false := by simp [hp]
 have q0 : (k.next == 0) = false := by simp [hn]
 have q1 : (k.next == 1) = true := by simp [hn]
 have HIN := zIt hin
 have HT := zIt hT
 have HA := zIt ha
 have Hn := zIt hn
 obtain ⟨c0, c1, c2, c3, c4, c5, c6, c7, c8, c9, c10⟩ := hT.obj.pu
 clear hT ha hin hp hn
 go_enter Tryz.func94, Tryz.ntmps94
 go_wp2_with fail
 refine HIN.out.mono ?_
 rintro r w1 ⟨rfl, v1, hS⟩
 have hD := hS.does
 have hO := hS.tk
 have HP : Hid (IsPu w1 b b1 b2 { k with tk := k1 }) := ⟨HT.out.obj.keep hD.keep (fun h => h.elim HT.out.n2 (HA.out b (.inl rfl))), HT.out.cl.keep hD.keep (fun h => h.elim HT.out.n3 (HA.out b1 (.inr (.inl rfl)))), hO, HT.out.n1, HT.out.n2, HT.out.n3⟩
 have HS := zIt (hD.wide (B' := PuB b b1 b2) (fun i hi => .inr (.inr hi)) HA.out HT.out.lt)
 clear hD hO hS c0 c1 c2 c3 c4 c5 c6 c7 c8 c9 c10
 go_wp2_with fail
 refine (zCU w1 b b1 b2 { k with tk := k1 } k1.ph (by have := Hn.out; show 0 ≤ k.next; omega) (by have := Hn.out; show k.next ≤ 3; omega) HP.out.obj).mono ?_
 rintro r w2 ⟨rfl, hO2, hK2⟩
 obtain ⟨k2, hk2, hk2c, hk2t⟩ : ∃ k2 : Pu, ({ k with tk := k1 } : Pu).after k1.ph = k2 ∧ k2.cl = k.cl ∧ k2.tk = k1 := ⟨_, rfl, Pu.after_cl _ _, Pu.after_tk _ _⟩
 rw [hk2] at hO2 ⊢
 have HP2 : Hid (IsPu w2 b b1 b2 k2) := ⟨hO2, hk2c ▸ HP.out.cl.keep hK2 (fun h => HT.out.n1 h.symm), hk2t ▸ HP.out.tk.keep hK2 (fun h => HT.out.n2 h.symm), HT.out.n1, HT.out.n2, HT.out.n3⟩
 replace HS := zIt (HS.out.own (hK2.mono (fun i hi => .inl hi)))
 have HK2 := zIt hk2
 clear hk2 hk2c hk2t hO2 hK2 HP
 obtain ⟨c0, c1, c2, c3, c4, c5, c6, c7, c8, c9, c10⟩ := HP2.out.obj.pu
 go_wp2
 go_ret
 rw [HK2.out]
 exact ⟨rfl, _, HS.out, HP2.out⟩
theorem zGx (hp : k.ph = 0) (hn : k.next = 2) (j : Nat) (hj : k.cl.slot = (j : Int)) (hl : Lay k.t k.s N) (hjN : (j : Int) < N) (x : Int) (hx : C[N + j]? = some x) (v0 : 0 ≤ k.value) (v1 : k.value ≤ 18446744073709551615) (hT : IsPu w b b1 b2 k) (hM : IsMem base w p c v C L) (ha : ∀ i, PuB b b1 b2 i → ¬ Foot p c v i) (hb : base ≤ w.heap.size) (hL : L.length < 1000000000) :
  Calls Tryz.prog 94 #[pt b, pt p, i64 now] w (PuPost base w b b1 b2 p c v { k with next := 3 } (C.set (N + j) k.value) (L ++ [⟨k.who, 1, (N + j : Nat), x, k.value, true⟩]) (.returned (i64 0))) := by
 have qp : (k.ph != 0) = false := by simp [hp]
 have q0 : (k.next == 0) = false := by simp [hn]
 have q1 : (k.next == 1) = false := by simp [hn]
 have q2 : (k.next == 2) = true := by simp [hn]
 have hn1 := hl.n1; have hn2 := hl.n2
 have HS := zIt (Does.refl (B := PuB b b1 b2) hM ha hb)
 have HT := zIt hT
 have HJ := zIt hj
 have HX := zIt hx
 have Hp := zIt hp
 have hs0 : 0 ≤ k.cl.slot := by omega
 have hs1 : k.cl.slot ≤ (N : Int) := by omega
 obtain ⟨c0, c1, c2, c3, c4, c5, c6, c7, c8, c9, c10⟩ := hT.obj.pu
 clear hT hM ha hp hn hj hx
 go_enter Tryz.func94, Tryz.ntmps94
 go_wp2_with fail
 clear c0 c1 c2 c3 c4 c5 c6 c7 c8 c9 c10
 refine zAE ((fun w' => AtPu w' b b1 b2 k)) ((0, true) :: (1, true) :: (2, true) :: (3, true) :: (4, true) :: (5, true) :: (6, true) :: (7, true) :: (8, true) :: (9, true) :: (10, true) :: (11, true) :: (12, true) :: (15, true) :: (16, true) :: (17, true) :: (18, true) :: (13, false) :: (14, false) :: (19, false) :: []) (by kernel_rfl) (by kernel_rfl) (by kernel_rfl) (by decide) (fun _ _ _ _ _ h => h) (HT.out.obj.drew.pu) ?_
 replace HT := zIt HT.out.drew
 replace HS := zIt HS.out.drew
 repeat ((first | (refine zAC (v := ?_) rfl ?_ ?_ ?_; rotate_left 1; rfl; focus (rintro wS ⟨c0, c1, c2, c3, c4, c5, c6, c7, c8, c9, c10⟩; go_simp <;> with_reducible rfl)) | (refine zAD rfl ?_ ?_; rfl)); try simp only [Act.put, qset])
 refine zAI rfl (fun K hK => ?_)
 go_simp
 go_at_call 122
 refine (zCq _ b1 _ HT.out.cl).mono ?_
 rintro r w' ⟨rfl, rfl⟩
 (try go_wp2_with fail)
 refine hK.out _ _ (HT.out.obj.pu) (fun _ => ?_)
 (try simp only [Act.put, qset])
 clear hK K
 repeat ((first | (refine zAC (v := ?_) rfl ?_ ?_ ?_; rotate_left 1; rfl; focus (rintro wS ⟨c0, c1, c2, c3, c4, c5, c6, c7, c8, c9, c10⟩; go_simp <;> with_reducible rfl)) | (refine zAD rfl ?_ ?_; rfl)); try simp only [Act.put, qset])
 refine zAI rfl (fun K hK => ?_)
 go_simp
 go_at_call 78
 refine (zGH _ _ _ _ N _ (N + j) _ hl hs0 hs1 (by have := HJ.out; omega)).mono ?_
 rintro r w1 ⟨rfl, hb1⟩
 (try go_wp2_with fail)
 replace HT := zIt (HT.out.later hb1)
 replace HS := zIt (HS.out.later hb1)
 clear hb1
 refine hK.out _ _ (HT.out.obj.pu) (fun _ => ?_)
 (try simp only [Act.put, qset])
 clear hK K
 repeat ((first | (refine zAC (v := ?_) rfl ?_ ?_ ?_; rotate_left 1; rfl; focus (rintro wS ⟨c0, c1, c2, c3, c4, c5, c6, c7, c8, c9, c10⟩; go_simp <;> with_reducible rfl)) | (refine zAD rfl ?_ ?_; rfl)); try simp only [Act.put, qset])
 refine zAI rfl (fun K hK => ?_)
 go_simp
 go_at_call 121
 refine (zBI base _ p c _ _ _ k.who (N + j) x k.value HS.out.mem HX.out HS.out.size hL v0 v1).mono ?_
 rintro r w2 ⟨rfl, v2, hT2⟩
 (try go_wp2_with fail)
 have hlt := HT.out.lt
 replace HT := zIt (HT.out.keep hT2.keep (HS.out.apart b (.inl rfl)) (HS.out.apart b1 (.inr (.inl rfl))) (HS.out.apart b2 (.inr (.inr rfl))))
 replace HS := zIt (HS.out.cells hlt hT2)
 clear hT2 hlt
 refine hK.out _ _ (HT.out.obj.pu) (fun _ => ?_)
 (try simp only [Act.put, qset])
 clear hK K
 refine zAJ ?_
 obtain ⟨c0, c1, c2, c3, c4, c5, c6, c7, c8, c9, c10⟩ := HT.out.obj.pu
 rw [Hp.out] at c10
 have f7 := HT.out.obj.fz 7
 go_wp2
 go_ret
 have hk := (Keep.refl (· = b) w2).own 7 (.int .i64 3)
 refine ⟨rfl, _, HS.out.own (hk.mono (fun i hi => .inl hi)), HT.out.obj.set 7 (.int .i64 3), HT.out.cl.keep hk (fun h => HT.out.n1 h.symm), HT.out.tk.keep hk (fun h => HT.out.n2 h.symm), HT.out.n1, HT.out.n2, HT.out.n3⟩
theorem zG1 (hp : k.ph = 0) (hn : k.next = 3) (j : Nat) (hj : k.cl.slot = (j : Int)) (x : Int) (hx : C[j]? = some x) (hc : k.cl.ph = 1) (g0 : 0 ≤ k.cl.wg) (g1 : k.cl.wg ≤ 8190) (l0 : 0 ≤ k.tk.lo) (l1 : k.tk.lo ≤ k.tk.hi) (l2 : k.tk.hi < 16777215) (e0 : 0 ≤ k.e) (e1 : k.e ≤ 1) (hT : IsPu w b b1 b2 k) (hM : IsMem base w p c v C L) (ha : ∀ i, PuB b b1 b2 i → ¬ Foot p c v i) (hb : base ≤ w.heap.size) (hL : L.length < 1000000000) :
  Calls Tryz.prog 94 #[pt b, pt p, i64 now] w (PuPost base w b b1 b2 p c v { k with ph := 1 } (C.set j k.pack) (L ++ [⟨k.who, 1, (j : Nat), x, k.pack, true⟩]) (.returned (i64 1))) := by
 have qp : (k.ph != 0) = false := by simp [hp]
 have q0 : (k.next == 0) = false := by simp [hn]
 have q1 : (k.next == 1) = false := by simp [hn]
 have q2 : (k.next == 2) = false := by simp [hn]
 have q3 : (k.next == 3) = true := by simp [hn]
 have HS := zIt (Does.refl (B := PuB b b1 b2) hM ha hb)
 have HP := zIt hT
 have HJ := zIt hj
 have HX := zIt hx
 have HCP := zIt hc
 have Hpk : Hid (0 ≤ k.pack ∧ k.pack ≤ 18446744073709551615) := by show _ ∧ _; unfold Pu.pack; omega
 obtain ⟨c0, c1, c2, c3, c4, c5, c6, c7, c8, c9, c10⟩ := hT.obj.pu
 clear hT hM ha hp hn hj hx hc
 go_enter Tryz.func94, Tryz.ntmps94
 go_wp2_with fail
 go_cut [7] (fun s7 wx => ∃ bx, s7 = .pointer (some ⟨bx, 0, none⟩) ∧ Hid (IsObj wx bx [i64 1, i64 k.e, i64 (k.cl.wg + 1), i64 k.tk.lo, i64 k.tk.hi]) ∧ Hid (∀ i, Foot p c v i → bx ≠ i) ∧ Hid (IsPu wx b b1 b2 k) ∧ Hid (Does (PuB b b1 b2) base w wx p c v v C L))
 case first =>
  refine zA8 (fun w' => AtPu w' b b1 b2 k) (.take 0 (.take 1 (.take 2 (.take 3 (.take 5 (.take 6 (.take 7 (.take 8 (.take 9 (.take 10 (.take 11 (.take 12 (.two 4 (.two 13 (.two 14 (.one 15 (.one 16 .nil)) 15 (.one 14 (.one 16 .nil))) 15 (.one 13 (.one 14 (.one 16 .nil)))) 15 (.one 4 (.one 13 (.one 14 (.one 16 .nil))))))))))))))))) (by kernel_rfl) (by kernel_rfl) (by kernel_rfl) (by decide) (fun _ _ _ _ _ h => h) HP.out.obj.drew.pu ?_
  repeat (refine zAk (v := ?_) rfl ?_ ?_ ?_; rotate_left 1; rfl; (focus (intro wS hSw; obtain ⟨c0, c1, c2, c3, c4, c5, c6, c7, c8, c9, c10⟩ := hSw; go_simp; first | done | with_reducible rfl)); (try simp only [Act.put, qset]))
  clear c0 c1 c2 c3 c4 c5 c6 c7 c8 c9 c10
  replace HP := zIt HP.out.drew
  replace HS := zIt HS.out.drew
  have HA := zIt HP.out.obj.pu
  generalize w.drew = ww0 at HP HS HA ⊢
  refine ⟨?_, ?_⟩
  ·refine runT rfl (fun K hK => ?_)
   go_simp
   go_at_call 123
   refine (zC8 _ b1 _ HCP.out HP.out.cl).mono ?_
   rintro r ww1 ⟨rfl, hb⟩
   (try go_wp2_with fail)
   replace HP := zIt (HP.out.later hb)
   replace HS := zIt (HS.out.later hb)
   replace HA := zIt HP.out.obj.pu
   clear hb
   refine hK.out _ _ HA.out (fun _ => ?_)
   (try simp only [Act.put, qset])
   clear hK K
   try clear ww0
   refine ⟨?_, ?_⟩
   ·refine runT rfl (fun K hK => ?_)
    go_simp
    go_at_call 124
    refine (zBj _ b2 _ HP.out.tk).mono ?_
    rintro r ww2 ⟨rfl, hb⟩
    (try go_wp2_with fail)
    replace HP := zIt (HP.out.later hb)
    replace HS := zIt (HS.out.later hb)
    replace HA := zIt HP.out.obj.pu
    clear hb
    refine hK.out _ _ HA.out (fun _ => ?_)
    (try simp only [Act.put, qset])
    clear hK K
    try clear ww1
    refine ⟨?_, ?_⟩
    ·refine runT rfl (fun K hK => ?_)
     go_simp
     go_at_call 112
     refine (zDQ _ _ _ _ _ _ _ _ _ g0 g1).mono ?_
     rintro r ww3 ⟨rfl, hb⟩
     (try go_wp2_with fail)
     replace HP := zIt (HP.out.later hb)
     replace HS := zIt (HS.out.later hb)
     replace HA := zIt HP.out.obj.pu
     clear hb
     refine hK.out _ _ HA.out (fun _ => ?_)
     (try simp only [Act.put, qset])
     clear hK K
     try clear ww2
     refine runT rfl (fun K hK => ?_)
     go_simp
     have hb := zAA (Below.refl ww3.heap.size ww3) (.cells #[i64 0, i64 0, i64 0, i64 0, i64 0] 80)
     have Hx : Hid (IsObj (ww3.alloc (.cells #[i64 0, i64 0, i64 0, i64 0, i64 0] 80)) ww3.heap.size [i64 0, i64 0, i64 0, i64 0, i64 0]) := IsObj.made ww3 [i64 0, i64 0, i64 0, i64 0, i64 0] 80
     have Hn : Hid (ww3.heap.size ≠ b ∧ ww3.heap.size ≠ b1 ∧ ww3.heap.size ≠ b2 ∧ (∀ i, Foot p c v i → ww3.heap.size ≠ i) ∧ w.heap.size ≤ ww3.heap.size) := ⟨fun e => by have := HP.out.obj.lt; omega, fun e => by have := HP.out.cl.lt; omega, fun e => by have := HP.out.tk.lt; omega, fun i hi e => by have := (HS.out.mem.foot i hi).2; omega, HS.out.keep.size⟩
     replace HP := zIt (HP.out.later hb)
     replace HS := zIt (HS.out.later hb)
     replace HA := zIt HP.out.obj.pu
     clear hb
     generalize ww3.alloc (.cells #[i64 0, i64 0, i64 0, i64 0, i64 0] 80) = ww4 at HA HP HS Hx ⊢
     generalize ww3.heap.size = bx at Hx Hn ⊢
     refine hK.out _ _ HA.out (fun _ => ?_)
     (try simp only [Act.put, qset])
     clear hK K
     try clear ww3
     refine runT rfl (fun K hK => ?_)
     have q0 := Hx.out.at' 0 _ rfl
     have q1 := Hx.out.at' 1 _ rfl
     have q2 := Hx.out.at' 2 _ rfl
     have q3 := Hx.out.at' 3 _ rfl
     have q4 := Hx.out.at' 4 _ rfl
     have f0 := Hx.out.fz 0
     have f1 := Hx.out.fz 1
     have f2 := Hx.out.fz 2
     have f3 := Hx.out.fz 3
     have f4 := Hx.out.fz 4
     go_simp
     clear q0 q1 q2 q3 q4 f0 f1 f2 f3 f4
     have hk5 : Keep (· = bx) ww4 (((((ww4.setCell ⟨bx, 0, none⟩ (i64 1)).setCell ⟨bx, 1, none⟩ (i64 k.e)).setCell ⟨bx, 2, none⟩ (i64 (k.cl.wg + 1))).setCell ⟨bx, 3, none⟩ (i64 k.tk.lo)).setCell ⟨bx, 4, none⟩ (i64 k.tk.hi)) := (((((Keep.refl _ _).own 0 _).own 1 _).own 2 _).own 3 _).own 4 _
     replace Hx : Hid (IsObj (((((ww4.setCell ⟨bx, 0, none⟩ (i64 1)).setCell ⟨bx, 1, none⟩ (i64 k.e)).setCell ⟨bx, 2, none⟩ (i64 (k.cl.wg + 1))).setCell ⟨bx, 3, none⟩ (i64 k.tk.lo)).setCell ⟨bx, 4, none⟩ (i64 k.tk.hi)) bx [i64 1, i64 k.e, i64 (k.cl.wg + 1), i64 k.tk.lo, i64 k.tk.hi]) := ((((Hx.out.set 0 (i64 1)).set 1 (i64 k.e)).set 2 (i64 (k.cl.wg + 1))).set 3 (i64 k.tk.lo)).set 4 (i64 k.tk.hi)
     generalize ((((ww4.setCell ⟨bx, 0, none⟩ (i64 1)).setCell ⟨bx, 1, none⟩ (i64 k.e)).setCell ⟨bx, 2, none⟩ (i64 (k.cl.wg + 1))).setCell ⟨bx, 3, none⟩ (i64 k.tk.lo)).setCell ⟨bx, 4, none⟩ (i64 k.tk.hi) = wz at hk5 Hx ⊢
     replace HP := zIt (HP.out.keep hk5 (fun h => Hn.out.1 h.symm) (fun h => Hn.out.2.1 h.symm) (fun h => Hn.out.2.2.1 h.symm))
     replace HS := zIt (HS.out.aside hk5 (fun i hi e => Hn.out.2.2.2.1 i hi e.symm) (fun q h => h ▸ Hn.out.2.2.2.2))
     replace HA := zIt HP.out.obj.pu
     refine hK.out _ _ HA.out (fun _ => ?_)
     (try simp only [Act.put, qset])
     clear hK K hk5
     refine zAQ ?_
     go_wp2_with fail
     go_meet
     exact ⟨bx, rfl, Hx, zIt Hn.out.2.2.2.1, HP, HS⟩
    ·refine runT rfl (fun K hK => ?_)
     go_simp
     have hb := zAA (Below.refl ww2.heap.size ww2) (.cells #[i64 0, i64 0, i64 0, i64 0, i64 0] 80)
     have Hx : Hid (IsObj (ww2.alloc (.cells #[i64 0, i64 0, i64 0, i64 0, i64 0] 80)) ww2.heap.size [i64 0, i64 0, i64 0, i64 0, i64 0]) := IsObj.made ww2 [i64 0, i64 0, i64 0, i64 0, i64 0] 80
     have Hn : Hid (ww2.heap.size ≠ b ∧ ww2.heap.size ≠ b1 ∧ ww2.heap.size ≠ b2 ∧ (∀ i, Foot p c v i → ww2.heap.size ≠ i) ∧ w.heap.size ≤ ww2.heap.size) := ⟨fun e => by have := HP.out.obj.lt; omega, fun e => by have := HP.out.cl.lt; omega, fun e => by have := HP.out.tk.lt; omega, fun i hi e => by have := (HS.out.mem.foot i hi).2; omega, HS.out.keep.size⟩
     replace HP := zIt (HP.out.later hb)
     replace HS := zIt (HS.out.later hb)
     replace HA := zIt HP.out.obj.pu
     clear hb
     generalize ww2.alloc (.cells #[i64 0, i64 0, i64 0, i64 0, i64 0] 80) = ww3 at HA HP HS Hx ⊢
     generalize ww2.heap.size = bx at Hx Hn ⊢
     refine hK.out _ _ HA.out (fun _ => ?_)
     (try simp only [Act.put, qset])
     clear hK K
     try clear ww2
     refine runT rfl (fun K hK => ?_)
     go_simp
     go_at_call 112
     refine (zDQ _ _ _ _ _ _ _ _ _ g0 g1).mono ?_
     rintro r ww4 ⟨rfl, hb⟩
     (try go_wp2_with fail)
     replace Hx := zIt (Hx.out.later hb)
     replace HP := zIt (HP.out.later hb)
     replace HS := zIt (HS.out.later hb)
     replace HA := zIt HP.out.obj.pu
     clear hb
     refine hK.out _ _ HA.out (fun _ => ?_)
     (try simp only [Act.put, qset])
     clear hK K
     try clear ww3
     refine runT rfl (fun K hK => ?_)
     have q0 := Hx.out.at' 0 _ rfl
     have q1 := Hx.out.at' 1 _ rfl
     have q2 := Hx.out.at' 2 _ rfl
     have q3 := Hx.out.at' 3 _ rfl
     have q4 := Hx.out.at' 4 _ rfl
     have f0 := Hx.out.fz 0
     have f1 := Hx.out.fz 1
     have f2 := Hx.out.fz 2
     have f3 := Hx.out.fz 3
     have f4 := Hx.out.fz 4
     go_simp
     clear q0 q1 q2 q3 q4 f0 f1 f2 f3 f4
     have hk5 : Keep (· = bx) ww4 (((((ww4.setCell ⟨bx, 0, none⟩ (i64 1)).setCell ⟨bx, 1, none⟩ (i64 k.e)).setCell ⟨bx, 2, none⟩ (i64 (k.cl.wg + 1))).setCell ⟨bx, 3, none⟩ (i64 k.tk.lo)).setCell ⟨bx, 4, none⟩ (i64 k.tk.hi)) := (((((Keep.refl _ _).own 0 _).own 1 _).own 2 _).own 3 _).own 4 _
     replace Hx : Hid (IsObj (((((ww4.setCell ⟨bx, 0, none⟩ (i64 1)).setCell ⟨bx, 1, none⟩ (i64 k.e)).setCell ⟨bx, 2, none⟩ (i64 (k.cl.wg + 1))).setCell ⟨bx, 3, none⟩ (i64 k.tk.lo)).setCell ⟨bx, 4, none⟩ (i64 k.tk.hi)) bx [i64 1, i64 k.e, i64 (k.cl.wg + 1), i64 k.tk.lo, i64 k.tk.hi]) := ((((Hx.out.set 0 (i64 1)).set 1 (i64 k.e)).set 2 (i64 (k.cl.wg + 1))).set 3 (i64 k.tk.lo)).set 4 (i64 k.tk.hi)
     generalize ((((ww4.setCell ⟨bx, 0, none⟩ (i64 1)).setCell ⟨bx, 1, none⟩ (i64 k.e)).setCell ⟨bx, 2, none⟩ (i64 (k.cl.wg + 1))).setCell ⟨bx, 3, none⟩ (i64 k.tk.lo)).setCell ⟨bx, 4, none⟩ (i64 k.tk.hi) = wz at hk5 Hx ⊢
     replace HP := zIt (HP.out.keep hk5 (fun h => Hn.out.1 h.symm) (fun h => Hn.out.2.1 h.symm) (fun h => Hn.out.2.2.1 h.symm))
     replace HS := zIt (HS.out.aside hk5 (fun i hi e => Hn.out.2.2.2.1 i hi e.symm) (fun q h => h ▸ Hn.out.2.2.2.2))
     replace HA := zIt HP.out.obj.pu
     refine hK.out _ _ HA.out (fun _ => ?_)
     (try simp only [Act.put, qset])
     clear hK K hk5
     refine zAQ ?_
     go_wp2_with fail
     go_meet
     exact ⟨bx, rfl, Hx, zIt Hn.out.2.2.2.1, HP, HS⟩
   ·refine runT rfl (fun K hK => ?_)
    go_simp
    have hb := zAA (Below.refl ww1.heap.size ww1) (.cells #[i64 0, i64 0, i64 0, i64 0, i64 0] 80)
    have Hx : Hid (IsObj (ww1.alloc (.cells #[i64 0, i64 0, i64 0, i64 0, i64 0] 80)) ww1.heap.size [i64 0, i64 0, i64 0, i64 0, i64 0]) := IsObj.made ww1 [i64 0, i64 0, i64 0, i64 0, i64 0] 80
    have Hn : Hid (ww1.heap.size ≠ b ∧ ww1.heap.size ≠ b1 ∧ ww1.heap.size ≠ b2 ∧ (∀ i, Foot p c v i → ww1.heap.size ≠ i) ∧ w.heap.size ≤ ww1.heap.size) := ⟨fun e => by have := HP.out.obj.lt; omega, fun e => by have := HP.out.cl.lt; omega, fun e => by have := HP.out.tk.lt; omega, fun i hi e => by have := (HS.out.mem.foot i hi).2; omega, HS.out.keep.size⟩
    replace HP := zIt (HP.out.later hb)
    replace HS := zIt (HS.out.later hb)
    replace HA := zIt HP.out.obj.pu
    clear hb
    generalize ww1.alloc (.cells #[i64 0, i64 0, i64 0, i64 0, i64 0] 80) = ww2 at HA HP HS Hx ⊢
    generalize ww1.heap.size = bx at Hx Hn ⊢
    refine hK.out _ _ HA.out (fun _ => ?_)
    (try simp only [Act.put, qset])
    clear hK K
    try clear ww1
    refine runT rfl (fun K hK => ?_)
    go_simp
    go_at_call 124
    refine (zBj _ b2 _ HP.out.tk).mono ?_
    rintro r ww3 ⟨rfl, hb⟩
    (try go_wp2_with fail)
    replace Hx := zIt (Hx.out.later hb)
    replace HP := zIt (HP.out.later hb)
    replace HS := zIt (HS.out.later hb)
    replace HA := zIt HP.out.obj.pu
    clear hb
    refine hK.out _ _ HA.out (fun _ => ?_)
    (try simp only [Act.put, qset])
    clear hK K
    try clear ww2
    refine runT rfl (fun K hK => ?_)
    go_simp
    go_at_call 112
    refine (zDQ _ _ _ _ _ _ _ _ _ g0 g1).mono ?_
    rintro r ww4 ⟨rfl, hb⟩
    (try go_wp2_with fail)
    replace Hx := zIt (Hx.out.later hb)
    replace HP := zIt (HP.out.later hb)
    replace HS := zIt (HS.out.later hb)
    replace HA := zIt HP.out.obj.pu
    clear hb
    refine hK.out _ _ HA.out (fun _ => ?_)
    (try simp only [Act.put, qset])
    clear hK K
    try clear ww3
    refine runT rfl (fun K hK => ?_)
    have q0 := Hx.out.at' 0 _ rfl
    have q1 := Hx.out.at' 1 _ rfl
    have q2 := Hx.out.at' 2 _ rfl
    have q3 := Hx.out.at' 3 _ rfl
    have q4 := Hx.out.at' 4 _ rfl
    have f0 := Hx.out.fz 0
    have f1 := Hx.out.fz 1
    have f2 := Hx.out.fz 2
    have f3 := Hx.out.fz 3
    have f4 := Hx.out.fz 4
    go_simp
    clear q0 q1 q2 q3 q4 f0 f1 f2 f3 f4
    have hk5 : Keep (· = bx) ww4 (((((ww4.setCell ⟨bx, 0, none⟩ (i64 1)).setCell ⟨bx, 1, none⟩ (i64 k.e)).setCell ⟨bx, 2, none⟩ (i64 (k.cl.wg + 1))).setCell ⟨bx, 3, none⟩ (i64 k.tk.lo)).setCell ⟨bx, 4, none⟩ (i64 k.tk.hi)) := (((((Keep.refl _ _).own 0 _).own 1 _).own 2 _).own 3 _).own 4 _
    replace Hx : Hid (IsObj (((((ww4.setCell ⟨bx, 0, none⟩ (i64 1)).setCell ⟨bx, 1, none⟩ (i64 k.e)).setCell ⟨bx, 2, none⟩ (i64 (k.cl.wg + 1))).setCell ⟨bx, 3, none⟩ (i64 k.tk.lo)).setCell ⟨bx, 4, none⟩ (i64 k.tk.hi)) bx [i64 1, i64 k.e, i64 (k.cl.wg + 1), i64 k.tk.lo, i64 k.tk.hi]) := ((((Hx.out.set 0 (i64 1)).set 1 (i64 k.e)).set 2 (i64 (k.cl.wg + 1))).set 3 (i64 k.tk.lo)).set 4 (i64 k.tk.hi)
    generalize ((((ww4.setCell ⟨bx, 0, none⟩ (i64 1)).setCell ⟨bx, 1, none⟩ (i64 k.e)).setCell ⟨bx, 2, none⟩ (i64 (k.cl.wg + 1))).setCell ⟨bx, 3, none⟩ (i64 k.tk.lo)).setCell ⟨bx, 4, none⟩ (i64 k.tk.hi) = wz at hk5 Hx ⊢
    replace HP := zIt (HP.out.keep hk5 (fun h => Hn.out.1 h.symm) (fun h => Hn.out.2.1 h.symm) (fun h => Hn.out.2.2.1 h.symm))
    replace HS := zIt (HS.out.aside hk5 (fun i hi e => Hn.out.2.2.2.1 i hi e.symm) (fun q h => h ▸ Hn.out.2.2.2.2))
    replace HA := zIt HP.out.obj.pu
    refine hK.out _ _ HA.out (fun _ => ?_)
    (try simp only [Act.put, qset])
    clear hK K hk5
    refine zAQ ?_
    go_wp2_with fail
    go_meet
    exact ⟨bx, rfl, Hx, zIt Hn.out.2.2.2.1, HP, HS⟩
  ·refine runT rfl (fun K hK => ?_)
   go_simp
   have hb := zAA (Below.refl ww0.heap.size ww0) (.cells #[i64 0, i64 0, i64 0, i64 0, i64 0] 80)
   have Hx : Hid (IsObj (ww0.alloc (.cells #[i64 0, i64 0, i64 0, i64 0, i64 0] 80)) ww0.heap.size [i64 0, i64 0, i64 0, i64 0, i64 0]) := IsObj.made ww0 [i64 0, i64 0, i64 0, i64 0, i64 0] 80
   have Hn : Hid (ww0.heap.size ≠ b ∧ ww0.heap.size ≠ b1 ∧ ww0.heap.size ≠ b2 ∧ (∀ i, Foot p c v i → ww0.heap.size ≠ i) ∧ w.heap.size ≤ ww0.heap.size) := ⟨fun e => by have := HP.out.obj.lt; omega, fun e => by have := HP.out.cl.lt; omega, fun e => by have := HP.out.tk.lt; omega, fun i hi e => by have := (HS.out.mem.foot i hi).2; omega, HS.out.keep.size⟩
   replace HP := zIt (HP.out.later hb)
   replace HS := zIt (HS.out.later hb)
   replace HA := zIt HP.out.obj.pu
   clear hb
   generalize ww0.alloc (.cells #[i64 0, i64 0, i64 0, i64 0, i64 0] 80) = ww1 at HA HP HS Hx ⊢
   generalize ww0.heap.size = bx at Hx Hn ⊢
   refine hK.out _ _ HA.out (fun _ => ?_)
   (try simp only [Act.put, qset])
   clear hK K
   try clear ww0
   refine runT rfl (fun K hK => ?_)
   go_simp
   go_at_call 123
   refine (zC8 _ b1 _ HCP.out HP.out.cl).mono ?_
   rintro r ww2 ⟨rfl, hb⟩
   (try go_wp2_with fail)
   replace Hx := zIt (Hx.out.later hb)
   replace HP := zIt (HP.out.later hb)
   replace HS := zIt (HS.out.later hb)
   replace HA := zIt HP.out.obj.pu
   clear hb
   refine hK.out _ _ HA.out (fun _ => ?_)
   (try simp only [Act.put, qset])
   clear hK K
   try clear ww1
   refine runT rfl (fun K hK => ?_)
   go_simp
   go_at_call 124
   refine (zBj _ b2 _ HP.out.tk).mono ?_
   rintro r ww3 ⟨rfl, hb⟩
   (try go_wp2_with fail)
   replace Hx := zIt (Hx.out.later hb)
   replace HP := zIt (HP.out.later hb)
   replace HS := zIt (HS.out.later hb)
   replace HA := zIt HP.out.obj.pu
   clear hb
   refine hK.out _ _ HA.out (fun _ => ?_)
   (try simp only [Act.put, qset])
   clear hK K
   try clear ww2
   refine runT rfl (fun K hK => ?_)
   go_simp
   go_at_call 112
   refine (zDQ _ _ _ _ _ _ _ _ _ g0 g1).mono ?_
   rintro r ww4 ⟨rfl, hb⟩
   (try go_wp2_with fail)
   replace Hx := zIt (Hx.out.later hb)
   replace HP := zIt (HP.out.later hb)
   replace HS := zIt (HS.out.later hb)
   replace HA := zIt HP.out.obj.pu
   clear hb
   refine hK.out _ _ HA.out (fun _ => ?_)
   (try simp only [Act.put, qset])
   clear hK K
   try clear ww3
   refine runT rfl (fun K hK => ?_)
   have q0 := Hx.out.at' 0 _ rfl
   have q1 := Hx.out.at' 1 _ rfl
   have q2 := Hx.out.at' 2 _ rfl
   have q3 := Hx.out.at' 3 _ rfl
   have q4 := Hx.out.at' 4 _ rfl
   have f0 := Hx.out.fz 0
   have f1 := Hx.out.fz 1
   have f2 := Hx.out.fz 2
   have f3 := Hx.out.fz 3
   have f4 := Hx.out.fz 4
   go_simp
   clear q0 q1 q2 q3 q4 f0 f1 f2 f3 f4
   have hk5 : Keep (· = bx) ww4 (((((ww4.setCell ⟨bx, 0, none⟩ (i64 1)).setCell ⟨bx, 1, none⟩ (i64 k.e)).setCell ⟨bx, 2, none⟩ (i64 (k.cl.wg + 1))).setCell ⟨bx, 3, none⟩ (i64 k.tk.lo)).setCell ⟨bx, 4, none⟩ (i64 k.tk.hi)) := (((((Keep.refl _ _).own 0 _).own 1 _).own 2 _).own 3 _).own 4 _
   replace Hx : Hid (IsObj (((((ww4.setCell ⟨bx, 0, none⟩ (i64 1)).setCell ⟨bx, 1, none⟩ (i64 k.e)).setCell ⟨bx, 2, none⟩ (i64 (k.cl.wg + 1))).setCell ⟨bx, 3, none⟩ (i64 k.tk.lo)).setCell ⟨bx, 4, none⟩ (i64 k.tk.hi)) bx [i64 1, i64 k.e, i64 (k.cl.wg + 1), i64 k.tk.lo, i64 k.tk.hi]) := ((((Hx.out.set 0 (i64 1)).set 1 (i64 k.e)).set 2 (i64 (k.cl.wg + 1))).set 3 (i64 k.tk.lo)).set 4 (i64 k.tk.hi)
   generalize ((((ww4.setCell ⟨bx, 0, none⟩ (i64 1)).setCell ⟨bx, 1, none⟩ (i64 k.e)).setCell ⟨bx, 2, none⟩ (i64 (k.cl.wg + 1))).setCell ⟨bx, 3, none⟩ (i64 k.tk.lo)).setCell ⟨bx, 4, none⟩ (i64 k.tk.hi) = wz at hk5 Hx ⊢
   replace HP := zIt (HP.out.keep hk5 (fun h => Hn.out.1 h.symm) (fun h => Hn.out.2.1 h.symm) (fun h => Hn.out.2.2.1 h.symm))
   replace HS := zIt (HS.out.aside hk5 (fun i hi e => Hn.out.2.2.2.1 i hi e.symm) (fun q h => h ▸ Hn.out.2.2.2.2))
   replace HA := zIt HP.out.obj.pu
   refine hK.out _ _ HA.out (fun _ => ?_)
   (try simp only [Act.put, qset])
   clear hK K hk5
   refine zAQ ?_
   go_wp2_with fail
   go_meet
   exact ⟨bx, rfl, Hx, zIt Hn.out.2.2.2.1, HP, HS⟩
 case rest =>
  obtain ⟨bx, rfl, Hx, Hn, HP, HS⟩ := hcut
  clear c0 c1 c2 c3 c4 c5 c6 c7 c8 c9 c10
  go_wp2_with fail
  refine zAE ((fun w' => AtPu w' b b1 b2 k ∧ w'.cell? ⟨bx, 0, none⟩ = some (i64 1) ∧ w'.cell? ⟨bx, 1, none⟩ = some (i64 k.e) ∧ w'.cell? ⟨bx, 2, none⟩ = some (i64 (k.cl.wg + 1)) ∧ w'.cell? ⟨bx, 3, none⟩ = some (i64 k.tk.lo) ∧ w'.cell? ⟨bx, 4, none⟩ = some (i64 k.tk.hi))) ((0, true) :: (1, true) :: (2, true) :: (3, true) :: (4, true) :: (5, true) :: (6, true) :: (7, true) :: (8, true) :: (9, true) :: (10, true) :: (11, true) :: (12, true) :: (15, true) :: (13, false) :: (14, false) :: (16, false) :: (17, false) :: []) (by kernel_rfl) (by kernel_rfl) (by kernel_rfl) (by decide) (fun _ _ _ _ _ h => h) (⟨HP.out.obj.drew.pu, Hx.out.drew.at' 0 _ rfl, Hx.out.drew.at' 1 _ rfl, Hx.out.drew.at' 2 _ rfl, Hx.out.drew.at' 3 _ rfl, Hx.out.drew.at' 4 _ rfl⟩) ?_
  replace HP := zIt HP.out.drew
  replace HS := zIt HS.out.drew
  replace Hx := zIt Hx.out.drew
  repeat ((first | (refine zAC (v := ?_) rfl ?_ ?_ ?_; rotate_left 1; rfl; focus (rintro wS ⟨⟨c0, c1, c2, c3, c4, c5, c6, c7, c8, c9, c10⟩, d0, d1, d2, d3, d4⟩; go_simp <;> with_reducible rfl)) | (refine zAD rfl ?_ ?_; rfl)); try simp only [Act.put, qset])
  refine zAI rfl (fun K hK => ?_)
  go_simp
  go_at_call 122
  refine (zCq _ b1 _ HP.out.cl).mono ?_
  rintro r w' ⟨rfl, rfl⟩
  (try go_wp2_with fail)
  refine hK.out _ _ (⟨HP.out.obj.pu, Hx.out.at' 0 _ rfl, Hx.out.at' 1 _ rfl, Hx.out.at' 2 _ rfl, Hx.out.at' 3 _ rfl, Hx.out.at' 4 _ rfl⟩) (fun _ => ?_)
  (try simp only [Act.put, qset])
  clear hK K
  repeat ((first | (refine zAC (v := ?_) rfl ?_ ?_ ?_; rotate_left 1; rfl; focus (rintro wS ⟨⟨c0, c1, c2, c3, c4, c5, c6, c7, c8, c9, c10⟩, d0, d1, d2, d3, d4⟩; go_simp <;> with_reducible rfl)) | (refine zAD rfl ?_ ?_; rfl)); try simp only [Act.put, qset])
  refine zAI rfl (fun K hK => ?_)
  go_simp
  go_at_call 61
  refine (zHE _ _ _ _ _ j _ HJ.out).mono ?_
  rintro r w1 ⟨rfl, hb1⟩
  (try go_wp2_with fail)
  replace HP := zIt (HP.out.later hb1)
  replace HS := zIt (HS.out.later hb1)
  replace Hx := zIt (Hx.out.later hb1)
  clear hb1
  refine hK.out _ _ (⟨HP.out.obj.pu, Hx.out.at' 0 _ rfl, Hx.out.at' 1 _ rfl, Hx.out.at' 2 _ rfl, Hx.out.at' 3 _ rfl, Hx.out.at' 4 _ rfl⟩) (fun _ => ?_)
  (try simp only [Act.put, qset])
  clear hK K
  repeat ((first | (refine zAC (v := ?_) rfl ?_ ?_ ?_; rotate_left 1; rfl; focus (rintro wS ⟨⟨c0, c1, c2, c3, c4, c5, c6, c7, c8, c9, c10⟩, d0, d1, d2, d3, d4⟩; go_simp <;> with_reducible rfl)) | (refine zAD rfl ?_ ?_; rfl)); try simp only [Act.put, qset])
  refine zAI rfl (fun K hK => ?_)
  go_simp
  go_at_call 125
  refine (zIn 1 k.e (k.cl.wg + 1) k.tk.lo k.tk.hi k.pack _ (by omega) rfl).mono ?_
  rintro r w2 ⟨rfl, hb2⟩
  (try go_wp2_with fail)
  replace HP := zIt (HP.out.later hb2)
  replace HS := zIt (HS.out.later hb2)
  replace Hx := zIt (Hx.out.later hb2)
  clear hb2
  refine hK.out _ _ (⟨HP.out.obj.pu, Hx.out.at' 0 _ rfl, Hx.out.at' 1 _ rfl, Hx.out.at' 2 _ rfl, Hx.out.at' 3 _ rfl, Hx.out.at' 4 _ rfl⟩) (fun _ => ?_)
  (try simp only [Act.put, qset])
  clear hK K
  repeat ((first | (refine zAC (v := ?_) rfl ?_ ?_ ?_; rotate_left 1; rfl; focus (rintro wS ⟨⟨c0, c1, c2, c3, c4, c5, c6, c7, c8, c9, c10⟩, d0, d1, d2, d3, d4⟩; go_simp <;> with_reducible rfl)) | (refine zAD rfl ?_ ?_; rfl)); try simp only [Act.put, qset])
  refine zAI rfl (fun K hK => ?_)
  go_simp
  go_at_call 121
  refine (zBI base _ p c _ _ _ k.who j x k.pack HS.out.mem HX.out HS.out.size hL Hpk.out.1 Hpk.out.2).mono ?_
  rintro r w3 ⟨rfl, v3, hT3⟩
  (try go_wp2_with fail)
  have hlt := HP.out.lt
  replace HP := zIt (HP.out.keep hT3.keep (HS.out.apart b (.inl rfl)) (HS.out.apart b1 (.inr (.inl rfl))) (HS.out.apart b2 (.inr (.inr rfl))))
  replace Hx := zIt (Hx.out.keep hT3.keep (fun h => Hn.out _ h rfl))
  replace HS := zIt (HS.out.cells hlt hT3)
  clear hT3 hlt
  refine hK.out _ _ (⟨HP.out.obj.pu, Hx.out.at' 0 _ rfl, Hx.out.at' 1 _ rfl, Hx.out.at' 2 _ rfl, Hx.out.at' 3 _ rfl, Hx.out.at' 4 _ rfl⟩) (fun _ => ?_)
  (try simp only [Act.put, qset])
  clear hK K
  refine zAJ ?_
  obtain ⟨c0, c1, c2, c3, c4, c5, c6, c7, c8, c9, c10⟩ := HP.out.obj.pu
  have f10 := HP.out.obj.fz 10
  go_wp2
  go_ret
  have hk := (Keep.refl (· = b) w3).own 10 (.int .i64 1)
  refine ⟨rfl, _, HS.out.own (hk.mono (fun i hi => .inl hi)), HP.out.obj.set 10 (.int .i64 1), HP.out.cl.keep hk (fun h => HP.out.n1 h.symm), HP.out.tk.keep hk (fun h => HP.out.n2 h.symm), HP.out.n1, HP.out.n2, HP.out.n3⟩
end
end
section
section
variable (base : Nat) (w : World) (b b1 b2 p c : Nat) (v : Value) (C : List Int) (L : List Ev) (k : Pu) (N : Nat) (m : Int) (nb hz : Nat) (now : Int)
theorem zGD {C : List Int} {i : Nat} (h : i < C.length) : C[i]? = some (C.getD i 0) := by
 rw [List.getD_eq_getElem?_getD, List.getElem?_eq_getElem h]
 rfl
theorem zDG (hk : k.Ok N m nb hz C) (n0 : 0 ≤ now) (hT : IsPu w b b1 b2 k) (hM : IsMem base w p c v C L) (ha : ∀ i, PuB b b1 b2 i → ¬ Foot p c v i) (hb : base ≤ w.heap.size) (hL : L.length < 1000000000) :
  Calls Tryz.prog 94 #[pt b, pt p, i64 now] w (PuPost base w b b1 b2 p c v (k.step m nb hz C now) (k.cells N nb C now) (L ++ k.ev N nb hz C now) (.returned (i64 (k.step m nb hz C now).ph))) := by
 have hl := hk.cl.lay
 have h1 := hk.cl.len; have h2 := hk.cl.s0; have h3 := hk.cl.s1; have h4 := hk.cl.m0; have h5 := hk.cl.m1; have h6 := hl.n1; have h7 := hl.t1
 rw [hk.ct, hk.cs] at hl
 unfold Pu.step Pu.cells Pu.ev
 by_cases hp : k.ph ≠ 0
 ·rw [if_pos hp, if_pos hp, if_pos hp, List.append_nil]
  exact zG5 base w b b1 b2 p c v C L k now hp hT hM ha hb
 ·rw [if_neg hp, if_neg hp, if_neg hp]
  have hp0 : k.ph = 0 := Classical.not_not.1 hp
  rcases hk.at' hp0 with ⟨h, hc, ht⟩ | ⟨h, hc, ht⟩ | ⟨h, hc, ht⟩ | ⟨h, hc, ht⟩
  ·rw [if_pos h, if_pos h, if_pos h]
   exact zHG base w b b1 b2 p c v k now _ _ _ hp0 h hT ha (zCx base w b1 p c v C L k.cl N m hz hk.cl hT.cl hM (ha b1 (.inr (.inl rfl))) hb hL)
  ·have e0 : ¬ k.next = 0 := by omega
   rw [if_neg e0, if_neg e0, if_neg e0, if_pos h, if_pos h, if_pos h]
   exact zHC base w b b1 b2 p c v k now _ _ _ hp0 h hT ha (zHL base w b2 p c v C L k.tk nb N now hk.tk n0 hT.tk hM (ha b2 (.inr (.inr rfl))) hb hL)
  ·have e0 : ¬ k.next = 0 := by omega
   have e1 : ¬ k.next = 1 := by omega
   rw [if_neg e0, if_neg e0, if_neg e0, if_neg e1, if_neg e1, if_neg e1, if_pos h, if_pos h, if_pos h]
   have := zGx base w b b1 b2 p c v C L k N now hp0 h k.cl.slot.toNat (by omega) hl (by omega) _ (zGD (by omega)) hk.v0 hk.v1 hT hM ha hb hL
   rw [show i64 0 = i64 k.ph by rw [hp0]] at this
   exact this
  ·have e0 : ¬ k.next = 0 := by omega
   have e1 : ¬ k.next = 1 := by omega
   have e2 : ¬ k.next = 2 := by omega
   rw [if_neg e0, if_neg e0, if_neg e0, if_neg e1, if_neg e1, if_neg e1, if_neg e2, if_neg e2, if_neg e2]
   have hg := hk.wg (.inl hc)
   have hs := hk.st ht
   exact zG1 base w b b1 b2 p c v C L k now hp0 h k.cl.slot.toNat (by omega) _ (zGD (by omega)) hc hg.1 hg.2 hs.1 hs.2.1 hs.2.2 hk.e0 hk.e1 hT hM ha hb hL
theorem zEg (hT : IsObj w b (k.list b1 b2)) : Calls Tryz.prog 196 #[pt b] w fun r w' => r = .returned (i64 k.ph) ∧ w = w' := by
 obtain ⟨c0, c1, c2, c3, c4, c5, c6, c7, c8, c9, c10⟩ := hT.pu
 go_enter Tryz.func196, Tryz.ntmps196
 go_wp2
 go_ret
 exact ⟨rfl, rfl⟩
theorem zEc (hp : k.ph = 1) (hT : IsPu w b b1 b2 k) : Calls Tryz.prog 98 #[pt b] w fun r w' => r = .returned (st k.tk.lo k.tk.hi) ∧ Below w.heap.size w w' := by
 obtain ⟨c0, c1, c2, c3, c4, c5, c6, c7, c8, c9, c10⟩ := hT.obj.pu
 have q : (k.ph != 1) = false := by simp [hp]
 have HT := zIt hT
 have hlt := hT.obj.lt
 clear hp hT
 go_enter Tryz.func98, Tryz.ntmps98
 go_wp2_with fail
 have HK := zIt (zBj (w.alloc (.cells #[i64 0, i64 0] 35)) b2 _ (HT.out.later (zAA (Below.refl _ _) _)).tk)
 refine HK.out.mono ?_
 rintro r w1 ⟨rfl, hb1⟩
 obtain ⟨hc, hf⟩ := bcell hb1
 go_wp2
 have k0 : (w1.cell? ⟨w.heap.size, 0, none⟩).isSome = true := by rw [hc _ _ (by simp)]; simp [go_sem]
 have k1 : (w1.cell? ⟨w.heap.size, 1, none⟩).isSome = true := by rw [hc _ _ (by simp)]; simp [go_sem]
 exact bodyPost_ret (v := st k.tk.lo k.tk.hi) (by simp [results, Tryz.results98, go_sem, k0, k1]) rfl ⟨rfl, zAG (zAG (zAB (zAA (Below.refl _ _) _) hb1) (by simp) _) (by simp) _⟩
def pu0 (t s so d who e value m : Int) : Pu := ⟨t, s, so, d, who, e, value, 0, 0, cl0 t s so d who m, tk0 t s so d who⟩
theorem zF2 (t s so d who e value : Int) (hl : Lay t s N) (w0 : 0 ≤ who) (w1 : who < t) (hm : who * s = m) (m0 : 0 ≤ m) (m1 : m + s ≤ N) :
  Calls Tryz.prog 92 #[cf t s so d, i64 who, i64 e, u64 value] w fun r w' => ∃ b b1 b2, r = .returned (pt b) ∧ IsPu w' b b1 b2 (pu0 t s so d who e value m) ∧ Below w.heap.size w w' ∧ ∀ i, PuB b b1 b2 i → w.heap.size ≤ i := by
 have Hm := zIt hm
 have HA : Hid (AtC (w.alloc (.cells #[.int .i64 t, .int .i64 s, .int .i64 so, .int .i64 d] 47)).drew w.heap.size t s so d) := (AtC.made w t s so d).later (n := w.heap.size + 1) (Below.refl _ _).drew (by omega)
 have HB : Hid (Below w.heap.size w (w.alloc (.cells #[.int .i64 t, .int .i64 s, .int .i64 so, .int .i64 d] 47)).drew) := (zAA (Below.refl _ _) _).drew
 have hs0 : w.heap.size + 1 = (w.alloc (.cells #[.int .i64 t, .int .i64 s, .int .i64 so, .int .i64 d] 47)).heap.size := by simp
 have Hs : Hid (w.heap.size + 1 = (w.alloc (.cells #[.int .i64 t, .int .i64 s, .int .i64 so, .int .i64 d] 47)).drew.heap.size) := hs0
 clear hs0
 clear hm
 go_enter Tryz.func92, Tryz.ntmps92
 go_wp2_with fail
 refine zAE ((fun w' => AtC w' w.heap.size t s so d)) ((0, true) :: (1, true) :: (2, true) :: (3, true) :: (4, true) :: (5, true) :: (7, true) :: (8, true) :: (6, false) :: (9, false) :: (10, true) :: (11, false) :: (12, true) :: []) (by kernel_rfl) (by kernel_rfl) (by kernel_rfl) (by decide) (fun _ _ _ _ _ h => h) (HA.out) ?_
 generalize (w.alloc (.cells #[.int .i64 t, .int .i64 s, .int .i64 so, .int .i64 d] 47)).drew = wA at HA HB Hs ⊢
 repeat ((first | (refine zAC (v := ?_) rfl ?_ ?_ ?_; rotate_left 1; rfl; focus (rintro wS ⟨c0, c1, c2, c3⟩; go_simp <;> with_reducible rfl)) | (refine zAD rfl ?_ ?_; rfl)); try simp only [Act.put, qset])
 refine zAI rfl (fun K hK => ?_)
 go_simp
 go_at_call 115
 refine (zGY _ N m t s so d who hl w0 w1 Hm.out m0 m1).mono ?_
 rintro r wB ⟨b1, rfl, hO1, hb1, hs1⟩
 (try go_wp2_with fail)
 replace HA := zIt (HA.out.later hb1 (by have := Hs.out; omega))
 have HO1 := zIt hO1
 have Hlt := zIt hO1.lt
 have HB1 := zIt hb1
 have Hs1 := zIt hs1
 clear hO1 hb1 hs1
 refine hK.out _ _ (HA.out) (fun _ => ?_)
 (try simp only [Act.put, qset])
 clear hK K
 repeat ((first | (refine zAC (v := ?_) rfl ?_ ?_ ?_; rotate_left 1; rfl; focus (rintro wS ⟨c0, c1, c2, c3⟩; go_simp <;> with_reducible rfl)) | (refine zAD rfl ?_ ?_; rfl)); try simp only [Act.put, qset])
 refine zAI rfl (fun K hK => ?_)
 go_simp
 go_at_call 116
 refine (zHK _ t s so d who).mono ?_
 rintro r wC ⟨b2, rfl, hO2, hb2, hs2⟩
 (try go_wp2_with fail)
 replace HA := zIt (HA.out.later hb2 (by have := Hs.out; have := HB1.out.size; omega))
 replace HO1 := zIt (HO1.out.later hb2)
 have HO2 := zIt hO2
 have HB2 := zIt hb2
 have Hs2 := zIt hs2
 clear hO2 hb2 hs2
 refine hK.out _ _ (HA.out) (fun _ => ?_)
 (try simp only [Act.put, qset])
 clear hK K
 repeat ((first | (refine zAC (v := ?_) rfl ?_ ?_ ?_; rotate_left 1; rfl; focus (rintro wS ⟨c0, c1, c2, c3⟩; go_simp <;> with_reducible rfl)) | (refine zAD rfl ?_ ?_; rfl)); try simp only [Act.put, qset])
 refine zAI rfl (fun K hK => ?_)
 go_simp
 have hO3 : IsObj (wC.alloc (.cells #[.int .i64 t, .int .i64 s, .int .i64 so, .int .i64 d, .int .i64 who, .int .i64 e, .int .u64 value, .int .i64 0, pt b1, pt b2, .int .i64 0] 184)) wC.heap.size ((pu0 t s so d who e value m).list b1 b2) := IsObj.made wC ((pu0 t s so d who e value m).list b1 b2) 184
 have HO3 := zIt hO3
 have hb3 := zAA (Below.refl wC.heap.size wC) (.cells #[.int .i64 t, .int .i64 s, .int .i64 so, .int .i64 d, .int .i64 who, .int .i64 e, .int .u64 value, .int .i64 0, pt b1, pt b2, .int .i64 0] 184)
 have HB3 := zIt hb3
 replace HA := zIt (HA.out.later hb3 (by have := Hs.out; have := HB1.out.size; have := HB2.out.size; omega))
 clear hb3 hO3
 refine hK.out _ _ (HA.out) (fun _ => ?_)
 (try simp only [Act.put, qset])
 clear hK K
 repeat ((first | (refine zAC (v := ?_) rfl ?_ ?_ ?_; rotate_left 1; rfl; focus (rintro wS ⟨c0, c1, c2, c3⟩; go_simp <;> with_reducible rfl)) | (refine zAD rfl ?_ ?_; rfl)); try simp only [Act.put, qset])
 refine zAJ ?_
 go_wp2
 go_ret
 have e0 := HB1.out.size
 have e1 := HB2.out.size
 have e2 := HO1.out.lt
 have e3 := HO2.out.lt
 have e4 := Hs.out
 have e5 := Hs1.out
 have e6 := Hs2.out
 have e7 := Hlt.out
 refine ⟨wC.heap.size, b1, b2, rfl, ⟨HO3.out, HO1.out.later HB3.out, HO2.out.later HB3.out, by omega, by omega, by omega⟩, zAR HB.out (zAR HB1.out (zAR HB2.out HB3.out e1) e0) (by omega), ?_⟩
 rintro i (rfl | rfl | rfl)
 ·omega
 ·omega
 ·omega
end
end
section
theorem Tk.Ok.cells {k : Tk} {nb : Nat} {n : Int} {C C' : List Int} (h : k.Ok nb n C) (e : C'.length = C.length) : k.Ok nb n C' :=
 ⟨h.lay, h.nt, e.trans h.len, h.w0, h.w1, h.s0, h.s1, h.e0, h.e1, h.o0, h.o1, h.d0, h.d1, h.p0, h.p1, h.sw⟩
theorem Cl.Ok.cells {k : Cl} {n m : Int} {hz : Nat} {C C' : List Int} (h : k.Ok n m hz C) (e : C'.length = C.length) : k.Ok n m hz C' :=
 ⟨h.lay, h.hz, by rw [e]; exact h.len, h.w0, h.w1, h.hm, h.m0, h.m1, h.s0, h.s1, h.g0, h.g1⟩
def Cl.mu (k : Cl) (m : Int) : Int := (k.slot - m) * (k.t + 1) + k.steps
theorem Cl.Ok.mu {k : Cl} {n m : Int} {hz : Nat} {C : List Int} (h : k.Ok n m hz C) : 0 ≤ k.mu m ∧ k.mu m < k.s * (k.t + 1) := by
 have h1 := h.s0; have h2 := h.s1; have h3 := h.g0; have h4 := h.g1; have h5 := h.lay.t1
 have h6 := Int.mul_le_mul_of_nonneg_right (show k.slot - m ≤ k.s - 1 by omega) (show 0 ≤ k.t + 1 by omega)
 have h7 := Int.mul_nonneg (show 0 ≤ k.slot - m by omega) (show 0 ≤ k.t + 1 by omega)
 rw [show (k.s - 1) * (k.t + 1) = k.s * (k.t + 1) - (k.t + 1) by rw [Int.sub_mul, Int.one_mul]] at h6
 unfold Cl.mu
 omega
theorem Cl.pass_ok {k : Cl} {n m : Int} {hz : Nat} {C : List Int} (h : k.Ok n m hz C) (hp : k.ph = 0) : (k.pass m).Ok n m hz C ∧ ((k.pass m).ph = 2 ∧ (k.pass m).steps = k.steps ∨ (k.pass m).ph = 0 ∧ (k.pass m).steps = 0 ∧ k.mu m + 1 ≤ (k.pass m).mu m) := by
 have h3 := h.g0; have h4 := h.g1; have h5 := h.lay.t1; have h6 := h.s0; have h7 := h.s1
 unfold Cl.pass
 split
 ·exact ⟨⟨h.lay, h.hz, h.len, h.w0, h.w1, h.hm, h.m0, h.m1, h.s0, h.s1, h.g0, h.g1⟩, .inl ⟨rfl, rfl⟩⟩
 ·refine ⟨⟨h.lay, h.hz, h.len, h.w0, h.w1, h.hm, h.m0, h.m1, by show m ≤ k.slot + 1; omega, by show k.slot + 1 < m + k.s; omega, Int.le_refl _, by show 0 ≤ k.t; omega⟩, .inr ⟨hp, rfl, ?_⟩⟩
  unfold Cl.mu
  show (k.slot - m) * (k.t + 1) + k.steps + 1 ≤ (k.slot + 1 - m) * (k.t + 1) + 0
  rw [show k.slot + 1 - m = (k.slot - m) + 1 by omega, Int.add_mul, Int.one_mul]
  omega
theorem Cl.step_ok {k : Cl} {n m : Int} {hz : Nat} {C : List Int} (h : k.Ok n m hz C) (hp : k.ph = 0) (hg : k.ph = 1 ∨ 1 ≤ k.steps → 0 ≤ k.wg ∧ k.wg ≤ 8190) :
  (k.step m hz C).Ok n m hz C ∧ ((k.step m hz C).ph = 1 ∨ 1 ≤ (k.step m hz C).steps → 0 ≤ (k.step m hz C).wg ∧ (k.step m hz C).wg ≤ 8190) ∧
   ((k.step m hz C).ph = 1 ∨ (k.step m hz C).ph = 2 ∨ (k.step m hz C).ph = 0 ∧ k.mu m + 1 ≤ (k.step m hz C).mu m) := by
 have h3 := h.g0; have h4 := h.g1; have h5 := h.lay.t1
 unfold Cl.step
 rw [if_pos hp]
 split
 ·rename_i hs
  generalize C.getD (k.cell hz) 0 = x
  have hw : (k.word x).Ok n m hz C := ⟨h.lay, h.hz, h.len, h.w0, h.w1, h.hm, h.m0, h.m1, h.s0, h.s1, h.g0, h.g1⟩
  have hpa := Cl.pass_ok hw hp
  have hws : (k.word x).steps = 0 := hs
  have hmu : (k.word x).mu m = k.mu m := rfl
  have hpass : ((k.word x).pass m).Ok n m hz C ∧ (((k.word x).pass m).ph = 1 ∨ 1 ≤ ((k.word x).pass m).steps → 0 ≤ ((k.word x).pass m).wg ∧ ((k.word x).pass m).wg ≤ 8190) ∧
    (((k.word x).pass m).ph = 1 ∨ ((k.word x).pass m).ph = 2 ∨ ((k.word x).pass m).ph = 0 ∧ k.mu m + 1 ≤ ((k.word x).pass m).mu m) :=
   ⟨hpa.1, fun hh => by rcases hpa.2 with ⟨a, b⟩ | ⟨a, b, c⟩ <;> omega, by rcases hpa.2 with ⟨a, b⟩ | ⟨a, b, c⟩ <;> omega⟩
  unfold Cl.look
  split
  ·exact hpass
  ·rename_i hx
   split
   ·exact ⟨⟨h.lay, h.hz, h.len, h.w0, h.w1, h.hm, h.m0, h.m1, h.s0, h.s1, h.g0, h.g1⟩, fun _ => by show 0 ≤ x / 8 % 8192 ∧ x / 8 % 8192 ≤ 8190; omega, .inl rfl⟩
   ·split
    ·refine ⟨⟨h.lay, h.hz, h.len, h.w0, h.w1, h.hm, h.m0, h.m1, h.s0, h.s1, by show (0 : Int) ≤ 1; decide, by show 1 ≤ k.t; omega⟩, fun _ => by show 0 ≤ x / 8 % 8192 ∧ x / 8 % 8192 ≤ 8190; omega, .inr (.inr ⟨hp, ?_⟩)⟩
     show (k.slot - m) * (k.t + 1) + k.steps + 1 ≤ (k.slot - m) * (k.t + 1) + 1
     omega
    ·exact hpass
 ·rename_i hs
  generalize C.getD (k.cell hz) 0 = x
  have hpa := Cl.pass_ok h hp
  have hw := hg (.inr (by omega))
  unfold Cl.guard
  split
  ·refine ⟨hpa.1, fun _ => ?_, by rcases hpa.2 with ⟨a, b⟩ | ⟨a, b, c⟩ <;> omega⟩
   have : (k.pass m).wg = k.wg := by unfold Cl.pass; split <;> rfl
   omega
  ·split
   ·exact ⟨⟨h.lay, h.hz, h.len, h.w0, h.w1, h.hm, h.m0, h.m1, h.s0, h.s1, h.g0, h.g1⟩, fun _ => hw, .inl rfl⟩
   ·refine ⟨⟨h.lay, h.hz, h.len, h.w0, h.w1, h.hm, h.m0, h.m1, h.s0, h.s1, by show 0 ≤ k.steps + 1; omega, by show k.steps + 1 ≤ k.t; omega⟩, fun _ => hw, .inr (.inr ⟨hp, ?_⟩)⟩
    show (k.slot - m) * (k.t + 1) + k.steps + 1 ≤ (k.slot - m) * (k.t + 1) + (k.steps + 1)
    omega
theorem zHf {nb : Nat} {n : Int} {k : Tk} {C : List Int} {now : Int} (h : k.Ok nb n C) (hp : k.ph = 0) (hm : k.steps < most k.t k.so k.d) (n0 : 0 ≤ now) (hC : ∀ j, 0 ≤ C.getD j 0) :
  ((stp nb k C now).1.ph = 1 → 0 ≤ (stp nb k C now).1.lo ∧ (stp nb k C now).1.lo ≤ (stp nb k C now).1.hi ∧ (stp nb k C now).1.hi < 16777215) ∧
   ((stp nb k C now).1.ph = 1 ∨ (stp nb k C now).1.ph = 2 ∨ (stp nb k C now).1.ph = 0 ∧ (stp nb k C now).1.steps = k.steps + 1 ∧ k.steps + 1 < most k.t k.so k.d) := by
 have he := h.e0; have hs0 := h.s0; have ho0 := h.o0; have ho1 := h.o1
 have hf : ∀ (k : Tk) (x y : Int), ((fin k x y).ph = 1 → 0 ≤ (fin k x y).lo ∧ (fin k x y).lo ≤ (fin k x y).hi ∧ (fin k x y).hi < 16777215) ∧ ((fin k x y).ph = 1 ∨ (fin k x y).ph = 2) := by
  intro k x y
  unfold fin
  split
  ·rename_i hh
   exact ⟨fun _ => hh, .inl rfl⟩
  ·exact ⟨fun h => by simp at h, .inr rfl⟩
 have hf' : ∀ (k : Tk) (x y z q : Int), ((fin k x y).ph = 1 → 0 ≤ (fin k x y).lo ∧ (fin k x y).lo ≤ (fin k x y).hi ∧ (fin k x y).hi < 16777215) ∧ ((fin k x y).ph = 1 ∨ (fin k x y).ph = 2 ∨ (fin k x y).ph = 0 ∧ (fin k x y).steps = z ∧ z < q) :=
  fun k x y z q => ⟨(hf k x y).1, (hf k x y).2.imp id .inl⟩
 unfold stp
 rw [if_pos hp]
 rcases (by omega : k.so = 0 ∨ k.so = 1 ∨ k.so = 2 ∨ k.so = 3 ∨ k.so = 4) with hs | hs | hs | hs | hs
 ·rw [if_pos hs]
  exact hf' _ _ _ _ _
 ·have hmm : most k.t k.so k.d = k.t + 1 := by rw [hs]; rfl
  rw [if_neg (by omega), if_pos hs]
  split
  ·exact ⟨fun h => by have h' : k.ph = 1 := h; omega, .inr (.inr ⟨hp, rfl, by omega⟩)⟩
  ·split
   ·rename_i h1
    exact ⟨fun _ => ⟨by show 0 ≤ k.seen + 1; omega, Int.le_refl _, h1⟩, .inl rfl⟩
   ·exact ⟨fun h => by simp at h, .inr (.inl rfl)⟩
 ·have hmm : most k.t k.so k.d = 4 := by rw [hs]; rfl
  rw [if_neg (by omega), if_neg (by omega), if_pos hs]
  split
  ·by_cases hx : low (C.getD nb 0) = 16777215
   ·rw [if_pos hx]
    exact ⟨fun h => by simp at h, .inr (.inl rfl)⟩
   ·rw [if_neg hx]
    exact ⟨fun h => by simp at h, .inr (.inr ⟨rfl, rfl, by omega⟩)⟩
  ·split
   ·split
    ·exact ⟨fun h => by have h' : k.ph = 1 := h; omega, .inr (.inr ⟨hp, rfl, by omega⟩)⟩
    ·exact hf' _ _ _ _ _
   ·split
    ·split
     ·exact hf' _ _ _ _ _
     ·exact ⟨fun h => by have h' : k.ph = 1 := h; omega, .inr (.inr ⟨hp, rfl, by omega⟩)⟩
    ·exact hf' _ _ _ _ _
 ·rw [if_neg (by omega), if_neg (by omega), if_neg (by omega), if_pos (.inl hs)]
  exact hf' _ _ _ _ _
 ·have hmm : most k.t k.so k.d = k.d + 2 := by rw [hs]; rfl
  rw [if_neg (by omega), if_neg (by omega), if_neg (by omega)]
  split
  ·exact hf' _ _ _ _ _
  ·rename_i hh
   exact ⟨fun h => by have h' : k.ph = 1 := h; omega, .inr (.inr ⟨hp, rfl, by omega⟩)⟩
structure Pu.Same (k k' : Pu) : Prop where
 t : k'.t = k.t
 s : k'.s = k.s
 so : k'.so = k.so
 d : k'.d = k.d
 who : k'.who = k.who
 e : k'.e = k.e
 value : k'.value = k.value
 tso : k'.tk.so = k.tk.so
 td : k'.tk.d = k.tk.d
theorem Pu.Same.refl (k : Pu) : k.Same k := ⟨rfl, rfl, rfl, rfl, rfl, rfl, rfl, rfl, rfl⟩
theorem Pu.Same.trans {a b c : Pu} (h : a.Same b) (k : b.Same c) : a.Same c := ⟨k.t.trans h.t, k.s.trans h.s, k.so.trans h.so, k.d.trans h.d, k.who.trans h.who, k.e.trans h.e, k.value.trans h.value, k.tso.trans h.tso, k.td.trans h.td⟩
theorem Pu.after_same (k : Pu) (r : Int) : k.Same (k.after r) := by
 unfold Pu.after
 split
 ·exact ⟨rfl, rfl, rfl, rfl, rfl, rfl, rfl, rfl, rfl⟩
 ·split <;> exact ⟨rfl, rfl, rfl, rfl, rfl, rfl, rfl, rfl, rfl⟩
theorem Pu.step_same (k : Pu) (m : Int) (nb hz : Nat) (C : List Int) (now : Int) : k.Same (k.step m nb hz C now) := by
 unfold Pu.step
 split
 ·exact .refl k
 ·split
  ·exact Pu.Same.trans (b := { k with cl := k.cl.step m hz C }) ⟨rfl, rfl, rfl, rfl, rfl, rfl, rfl, rfl, rfl⟩ (Pu.after_same _ _)
  ·split
   ·have e := zBk nb k.tk C now
    exact Pu.Same.trans (b := { k with tk := (stp nb k.tk C now).1 }) ⟨rfl, rfl, rfl, rfl, rfl, rfl, rfl, e.2.2.1, e.2.2.2.1⟩ (Pu.after_same _ _)
   ·split <;> exact ⟨rfl, rfl, rfl, rfl, rfl, rfl, rfl, rfl, rfl⟩
def Pu.rem (k : Pu) (m : Int) : Int :=
 if k.ph ≠ 0 then 0 else if k.next = 0 then k.s * (k.t + 1) - k.cl.mu m + most k.t k.tk.so k.tk.d + 2 else if k.next = 1 then most k.t k.tk.so k.tk.d - k.tk.steps + 2 else if k.next = 2 then 2 else 1
theorem zDJ {t so d : Int} (t1 : 1 ≤ t) (d0 : 0 ≤ d) : 1 ≤ most t so d := by
 unfold most
 repeat' split
 all_goals omega
section
variable {k : Pu} {N : Nat} {m : Int} {nb hz : Nat} {C : List Int} {now : Int}
theorem Pu.rem_pos (h : k.Ok N m nb hz C) (hp : k.ph = 0) : 1 ≤ k.rem m := by
 have h1 := h.cl.mu
 have h2 := h.cl.lay.t1
 have h3 := h.tk.d0
 rw [h.cs, h.ct] at h1
 have h4 := zDJ (t := k.t) (so := k.tk.so) (d := k.tk.d) (by rw [← h.ct]; exact h2) h3
 unfold Pu.rem
 rw [if_neg (by omega)]
 rcases h.at' hp with ⟨a, b, c⟩ | ⟨a, b, c⟩ | ⟨a, b, c⟩ | ⟨a, b, c⟩
 ·rw [if_pos a]
  omega
 ·have := h.tm c
  rw [if_neg (by omega), if_pos a]
  omega
 ·rw [if_neg (by omega), if_neg (by omega), if_pos a]
  omega
 ·rw [if_neg (by omega), if_neg (by omega), if_neg (by omega)]
  omega
theorem Pu.after_1 (k : Pu) : k.after 1 = { k with next := k.next + 1 } := by unfold Pu.after; rw [if_pos rfl]
theorem Pu.after_2 (k : Pu) : k.after 2 = { k with ph := 2 } := by unfold Pu.after; rw [if_neg (by decide), if_pos rfl]
theorem Pu.after_0 (k : Pu) : k.after 0 = k := by unfold Pu.after; rw [if_neg (by decide), if_neg (by decide)]
theorem Pu.Ok.next_ (h : k.Ok N m nb hz C) (n0 : 0 ≤ now) (hn : ∀ j, 0 ≤ C.getD j 0) : (k.step m nb hz C now).Ok N m nb hz C ∧ (k.ph = 0 → (k.step m nb hz C now).rem m + 1 ≤ k.rem m) := by
 by_cases hp : k.ph ≠ 0
 ·rw [show k.step m nb hz C now = k from if_pos hp]
  exact ⟨h, fun h => absurd h hp⟩
 ·have hp0 : k.ph = 0 := Classical.not_not.1 hp
  obtain ⟨cl, tk, ct, cs, cw, tt, ts, tw, wg, st, e0, e1, v0, v1, at', tm⟩ := id h
  have hpos := Pu.rem_pos h hp0
  have hmp := zDJ (t := k.t) (so := k.tk.so) (d := k.tk.d) (by rw [← ct]; exact cl.lay.t1) tk.d0
  unfold Pu.step
  rw [if_neg hp]
  rcases at' hp0 with ⟨a, b, c⟩ | ⟨a, b, c⟩ | ⟨a, b, c⟩ | ⟨a, b, c⟩
  ·rw [if_pos a]
   obtain ⟨o1, o2, o3⟩ := Cl.step_ok cl b wg
   obtain ⟨s1, s2, s3⟩ := Cl.step_same k.cl m hz C
   have hrem : k.rem m = k.s * (k.t + 1) - k.cl.mu m + most k.t k.tk.so k.tk.d + 2 := by unfold Pu.rem; rw [if_neg hp, if_pos a]
   have hmu := cl.mu
   rw [cs, ct] at hmu
   generalize hc1 : k.cl.step m hz C = c1 at o1 o2 o3 s1 s2 s3 ⊢
   rcases o3 with o3 | o3 | ⟨o3, o4⟩
   ·rw [o3, Pu.after_1]
    refine ⟨⟨o1, tk, s1.trans ct, s2.trans cs, s3.trans cw, tt, ts, tw, o2, st, e0, e1, v0, v1, fun _ => .inr (.inl ⟨by show k.next + 1 = 1; omega, o3, c⟩), tm⟩, fun _ => ?_⟩
    rw [hrem]
    unfold Pu.rem
    rw [if_neg hp, if_neg (by show ¬ k.next + 1 = 0; omega), if_pos (by show k.next + 1 = 1; omega)]
    have := tk.s0
    show most k.t k.tk.so k.tk.d - k.tk.steps + 2 + 1 ≤ _
    omega
   ·rw [o3, Pu.after_2]
    refine ⟨⟨o1, tk, s1.trans ct, s2.trans cs, s3.trans cw, tt, ts, tw, o2, st, e0, e1, v0, v1, fun h => by simp at h, tm⟩, fun _ => ?_⟩
    have : Pu.rem { k with cl := c1, ph := 2 } m = 0 := by unfold Pu.rem; rw [if_pos (by simp)]
    rw [this]
    omega
   ·rw [o3, Pu.after_0]
    refine ⟨⟨o1, tk, s1.trans ct, s2.trans cs, s3.trans cw, tt, ts, tw, o2, st, e0, e1, v0, v1, fun _ => .inl ⟨a, o3, c⟩, tm⟩, fun _ => ?_⟩
    rw [hrem]
    unfold Pu.rem
    rw [if_neg hp, if_pos a]
    show k.s * (k.t + 1) - c1.mu m + most k.t k.tk.so k.tk.d + 2 + 1 ≤ _
    omega
  ·rw [if_neg (by omega), if_pos a]
   have htm := tm c
   rw [← tt] at htm
   obtain ⟨m1, m2⟩ := zHf tk c htm n0 hn
   have hsl : k.tk.steps < 1000000 := by
    have h1 : most k.tk.t k.tk.so k.tk.d ≤ 102 := by
     have h2 := tk.d1; have h3 := tk.lay.t2
     unfold most
     repeat' split
     all_goals omega
    omega
   have ok' := (stp_ok nb N k.tk C now tk hsl n0 hn).cells (zBk nb k.tk C now).2.2.2.2.2.symm
   obtain ⟨s1, s2, s3, s4, s5, s6⟩ := zBk nb k.tk C now
   have hrem : k.rem m = most k.t k.tk.so k.tk.d - k.tk.steps + 2 := by unfold Pu.rem; rw [if_neg hp, if_neg (by omega), if_pos a]
   clear htm
   have htm := tm c
   rw [tt] at m2
   generalize hc1 : (stp nb k.tk C now).1 = c1 at m1 m2 ok' s1 s2 s3 s4 s5 ⊢
   rcases m2 with o3 | o3 | ⟨o3, o4, o5⟩
   ·rw [o3, Pu.after_1]
    refine ⟨⟨cl, ok', ct, cs, cw, s1.trans tt, s2.trans ts, s5.trans tw, wg, m1, e0, e1, v0, v1, fun _ => .inr (.inr (.inl ⟨by show k.next + 1 = 2; omega, b, o3⟩)), fun h => by have h' : c1.ph = 0 := h; omega⟩, fun _ => ?_⟩
    rw [hrem]
    unfold Pu.rem
    rw [if_neg hp, if_neg (by show ¬ k.next + 1 = 0; omega), if_neg (by show ¬ k.next + 1 = 1; omega), if_pos (by show k.next + 1 = 2; omega)]
    omega
   ·rw [o3, Pu.after_2]
    refine ⟨⟨cl, ok', ct, cs, cw, s1.trans tt, s2.trans ts, s5.trans tw, wg, m1, e0, e1, v0, v1, fun h => by simp at h, fun h => by have h' : c1.ph = 0 := h; omega⟩, fun _ => ?_⟩
    have : Pu.rem { k with tk := c1, ph := 2 } m = 0 := by unfold Pu.rem; rw [if_pos (by simp)]
    rw [this]
    omega
   ·rw [o3, Pu.after_0]
    refine ⟨⟨cl, ok', ct, cs, cw, s1.trans tt, s2.trans ts, s5.trans tw, wg, m1, e0, e1, v0, v1, fun _ => .inr (.inl ⟨a, b, o3⟩), fun _ => by show c1.steps < most k.t c1.so c1.d; rw [s3, s4]; omega⟩, fun _ => ?_⟩
    rw [hrem]
    unfold Pu.rem
    rw [if_neg hp, if_neg (by show ¬ k.next = 0; omega), if_pos a]
    show most k.t c1.so c1.d - c1.steps + 2 + 1 ≤ _
    rw [s3, s4]
    omega
  ·rw [if_neg (by omega), if_neg (by omega), if_pos a]
   refine ⟨⟨cl, tk, ct, cs, cw, tt, ts, tw, wg, st, e0, e1, v0, v1, fun _ => .inr (.inr (.inr ⟨rfl, b, c⟩)), tm⟩, fun _ => ?_⟩
   have h1 : k.rem m = 2 := by unfold Pu.rem; rw [if_neg hp, if_neg (by omega), if_neg (by omega), if_pos a]
   have h2 : Pu.rem { k with next := 3 } m = 1 := by unfold Pu.rem; rw [if_neg hp, if_neg (by simp), if_neg (by simp), if_neg (by simp)]
   omega
  ·rw [if_neg (by omega), if_neg (by omega), if_neg (by omega)]
   refine ⟨⟨cl, tk, ct, cs, cw, tt, ts, tw, wg, st, e0, e1, v0, v1, fun h => by simp at h, tm⟩, fun _ => ?_⟩
   have h2 : Pu.rem { k with ph := 1 } m = 0 := by unfold Pu.rem; rw [if_pos (by simp)]
   omega
theorem Pu.Ok.cells (h : k.Ok N m nb hz C) {C' : List Int} (e : C'.length = C.length) : k.Ok N m nb hz C' :=
 ⟨h.cl.cells e, h.tk.cells e, h.ct, h.cs, h.cw, h.tt, h.ts, h.tw, h.wg, h.st, h.e0, h.e1, h.v0, h.v1, h.at', h.tm⟩
theorem Pu.cells_len (k : Pu) (N nb : Nat) (C : List Int) (now : Int) : (k.cells N nb C now).length = C.length := by
 unfold Pu.cells
 split
 ·rfl
 ·split
  ·rfl
  ·split
   ·exact (zBk nb k.tk C now).2.2.2.2.2
   ·split <;> simp
theorem Pu.ev_le (k : Pu) (N nb hz : Nat) (C : List Int) (now : Int) : (k.ev N nb hz C now).length ≤ 1 := by
 unfold Pu.ev
 split
 ·simp
 ·split
  ·exact Cl.ev_le _ _ _
  ·split
   ·cases (stp nb k.tk C now).2.2 <;> simp
   ·split <;> simp
end
theorem zH0 {t s so d who e value m : Int} {N nb hz : Nat} {C : List Int} (hl : Lay t s N) (h2 : (hz : Int) = 2 * N) (h3 : (nb : Int) = 2 * N + t) (h4 : C.length = nb + t.toNat) (w0 : 0 ≤ who) (w1 : who < t) (hm : who * s = m) (m0 : 0 ≤ m) (m1 : m + s ≤ N)
  (o0 : 0 ≤ so) (o1 : so ≤ 4) (d0 : 0 ≤ d) (d1 : d ≤ 100) (e0 : 0 ≤ e) (e1 : e ≤ 1) (v0 : 0 ≤ value) (v1 : value ≤ 18446744073709551615) : (pu0 t s so d who e value m).Ok N m nb hz C := by
 have hs1 := hl.s1
 have ht1 := hl.t1
 exact ⟨⟨hl, h2, by show (C.length : Int) = 2 * N + 2 * t; omega, w0, w1, hm, m0, m1, Int.le_refl _, by show m < m + s; omega, Int.le_refl _, by show 0 ≤ t; omega⟩,
  ⟨hl, h3, h4, w0, w1, Int.le_refl _, by show (0 : Int) ≤ 1000000; decide, Int.le_refl _, by show (0 : Int) ≤ 16777215; decide, o0, o1, d0, d1, Int.le_refl _, by show (0 : Int) ≤ 2; decide, fun _ h => absurd h (by show ¬ (1 : Int) ≤ 0; decide)⟩,
  rfl, rfl, rfl, rfl, rfl, rfl, fun h => by rcases h with h | h <;> exact absurd h (by simp [pu0, cl0]), fun h => by exact absurd h (by simp [pu0, tk0]), e0, e1, v0, v1, fun _ => .inl ⟨rfl, rfl, rfl⟩, fun _ => zDJ ht1 d0⟩
theorem zGR (t s so d who e value m : Int) : (pu0 t s so d who e value m).rem m = s * (t + 1) + most t so d + 2 := by
 unfold Pu.rem
 rw [if_neg (by simp [pu0]), if_pos (show (pu0 t s so d who e value m).next = 0 from rfl)]
 show s * (t + 1) - ((m - m) * (t + 1) + 0) + most t so d + 2 = _
 rw [Int.sub_self, Int.zero_mul]
 omega
end
section
theorem zHU (a0 a1 a2 a3 : Int) (w : World) :
  Calls Tryz.prog 62 #[.int .i64 a0, .int .i64 a1, .int .i64 a2, .int .i64 a3] w fun r w' => r = .returned (cf (1 + a0 % 4) (1 + a1 % 4) (wrap64 ((IntKind.u64.wrap a2).tmod 5)) (a3 % 4)) ∧ Below w.heap.size w w' := by
 have e0 : bits .and .i64 a0 3 = a0 % 4 := by rw [show (3 : Int) = ((3 : Nat) : Int) from rfl, zBd a0 3 2 rfl (by decide)]; rfl
 have e1 : bits .and .i64 a1 3 = a1 % 4 := by rw [show (3 : Int) = ((3 : Nat) : Int) from rfl, zBd a1 3 2 rfl (by decide)]; rfl
 have e3 : bits .and .i64 a3 3 = a3 % 4 := by rw [show (3 : Int) = ((3 : Nat) : Int) from rfl, zBd a3 3 2 rfl (by decide)]; rfl
 go_enter Tryz.func62, Tryz.ntmps62
 go_wp2
 exact bodyPost_ret (v := cf (1 + a0 % 4) (1 + a1 % 4) (wrap64 ((IntKind.u64.wrap a2).tmod 5)) (a3 % 4)) (by simp [results, Tryz.results62, go_sem]) rfl ⟨rfl, zAA (Below.refl _ _) _⟩
theorem zHg {t s so d : Int} (t1 : 1 ≤ t) (t4 : t ≤ 4) (s1 : 1 ≤ s) (s4 : s ≤ 4) (d0 : 0 ≤ d) (d3 : d ≤ 3) : ∃ Q q : Nat, s * (t + 1) = (q : Int) ∧ s * (t + 1) + most t so d + 2 = (Q : Int) ∧ Q ≤ 27 ∧ q ≤ 20 ∧ (most t so d : Int) = ((Q - q - 2 : Nat) : Int) ∧ q + 3 ≤ Q := by
 have h1 := Int.mul_le_mul s4 (show t + 1 ≤ 5 by omega) (by omega) (by decide)
 have h2 := Int.mul_nonneg (show 0 ≤ s by omega) (show 0 ≤ t + 1 by omega)
 have h3 : 1 ≤ most t so d ∧ most t so d ≤ 5 := by
  unfold most
  repeat' split
  all_goals omega
 exact ⟨(s * (t + 1) + most t so d + 2).toNat, (s * (t + 1)).toNat, by omega, by omega, by omega, by omega, by omega, by omega⟩
def tPu (base b b1 b2 : Nat) (k : Pu) : Thing := ⟨fun w => IsPu w b b1 b2 k ∧ ∀ i, PuB b b1 b2 i → base ≤ i, PuB b b1 b2⟩
theorem zE3 (base b b1 b2 : Nat) (k : Pu) : (tPu base b b1 b2 k).Ok base :=
 ⟨fun _ _ _ h k hn => ⟨h.1.keep k (hn b (.inl rfl)) (hn b1 (.inr (.inl rfl))) (hn b2 (.inr (.inr rfl))), h.2⟩, fun _ i h hi => ⟨h.2 i hi, h.1.lt i hi⟩⟩
def PuHold (W w : World) (p c : Nat) (v : Value) (C : List Int) (L : List Ev) (b b1 b2 : Nat) (k : Pu) (R : List Thing) : Prop :=
 Hold W w (tMem W.heap.size p c v C L :: tPu W.heap.size b b1 b2 k :: R)
section
variable {W w w' : World} {p c b b1 b2 : Nat} {v v' : Value} {C C' : List Int} {L L' : List Ev} {k k' : Pu} {R : List Thing}
theorem PuHold.mem (h : PuHold W w p c v C L b b1 b2 k R) : IsMem W.heap.size w p c v C L := Hold.has h 0 _ rfl
theorem PuHold.pu (h : PuHold W w p c v C L b b1 b2 k R) : IsPu w b b1 b2 k := (Hold.has h 1 _ rfl).1
theorem PuHold.later (h : PuHold W w p c v C L b b1 b2 k R) (e : Below w.heap.size w w') : PuHold W w' p c v C L b b1 b2 k R := Hold.later h e
theorem PuHold.size (h : PuHold W w p c v C L b b1 b2 k R) : W.heap.size ≤ w.heap.size := Hold.size h
theorem PuHold.below (h : PuHold W w p c v C L b b1 b2 k R) : Below W.heap.size W w := Hold.below h
theorem PuHold.store (h : PuHold W w p c v C L b b1 b2 k R) (t : Touched W.heap.size w w' p c v v' C' L') : PuHold W w' p c v' C' L' b b1 b2 k R := Hold.mem h 0 rfl t
theorem PuHold.call {N : Nat} {m : Int} {nb hz : Nat} {now : Int} (h : PuHold W w p c v C L b b1 b2 k R) (hk : k.Ok N m nb hz C) (n0 : 0 ≤ now) (hL : L.length < 1000000000) :
  Calls Tryz.prog 94 #[pt b, pt p, i64 now] w fun r w' => r = .returned (i64 (k.step m nb hz C now).ph) ∧ ∃ v', PuHold W w' p c v' (k.cells N nb C now) (L ++ k.ev N nb hz C now) b b1 b2 (k.step m nb hz C now) R :=
 (zDG W.heap.size w b b1 b2 p c v C L k N m nb hz now hk n0 h.pu h.mem (Hold.free h 0 1 (by decide) rfl rfl) h.size hL).mono fun r w' ⟨hr, v', hd, hs⟩ =>
  ⟨hr, v', Hold.does h 0 1 (by decide) rfl rfl hd (zE3 _ _ _ _ _) ⟨hs, (Hold.has h 1 _ rfl).2⟩ (fun q hq => hq)⟩
theorem PuHold.begun (h : Hold W w [tMem W.heap.size p c v C L]) (e : Below w.heap.size w w') (hk : IsPu w' b b1 b2 k) (hb : ∀ i, PuB b b1 b2 i → w.heap.size ≤ i) : PuHold W w' p c v C L b b1 b2 k [] :=
 Hold.more h e (zE3 _ _ _ _ _) ⟨hk, fun i hi => Nat.le_trans h.size (hb i hi)⟩ hb
end
def runPu (N : Nat) (m : Int) (nb hz : Nat) : Nat → Pu → List Int → Pu × List Int
 | 0, k, C => (k, C)
 | i + 1, k, C => ((runPu N m nb hz i k C).1.step m nb hz (runPu N m nb hz i k C).2 i, (runPu N m nb hz i k C).1.cells N nb (runPu N m nb hz i k C).2 i)
def hPu : Pu := pu0 2 2 0 0 1 1 9 2
def hPC : List Int := List.replicate 12 0
end
end
end Go.Proofs.YtpfjommkjkbonabGreat
