/-
  Contracts of package put; what a step of it does is told as a function on plain data. No condition but that numbers fit their kinds, and that a claimed place's word may be used once more.
-/
import Derived.Test.YtoogdfjlodchhaaClaimStep
import Derived.Test.YtoogdfjlodchhaaTickStep
import Derived.Test.YtoogdfjlodchhaaTickLaw
import Derived.Test.YtoogdfjlodchhaaWordMore
import Derived.Test.YtoogdfjlodchhaaRegionT
import Derived.Test.YtoogdfjlodchhaaMore
import Derived.Deep.DeepCutAuto
namespace Go.Proofs.Ytoogdfjlodchhaa
open Go.RowKit
set_option linter.unusedVariables false

/-- A put under way: its own cells, its claim, its stamp. -/
structure Pu where
  t : Int
  s : Int
  so : Int
  d : Int
  who : Int
  e : Int
  value : Int
  next : Int
  ph : Int
  cl : Cl
  tk : Tk

abbrev Pu.list (k : Pu) (b1 b2 : Nat) : List Value := [i64 k.t, i64 k.s, i64 k.so, i64 k.d, i64 k.who, i64 k.e, u64 k.value, i64 k.next, pt b1, pt b2, i64 k.ph]

/-- The cells that are loaded. -/
structure AtPu (w : World) (b b1 b2 : Nat) (k : Pu) : Prop where
  c0 : w.cell? ⟨b, 0, none⟩ = some (i64 k.t)
  c1 : w.cell? ⟨b, 1, none⟩ = some (i64 k.s)
  c2 : w.cell? ⟨b, 2, none⟩ = some (i64 k.so)
  c3 : w.cell? ⟨b, 3, none⟩ = some (i64 k.d)
  c4 : w.cell? ⟨b, 4, none⟩ = some (i64 k.who)
  c5 : w.cell? ⟨b, 5, none⟩ = some (i64 k.e)
  c6 : w.cell? ⟨b, 6, none⟩ = some (u64 k.value)
  c7 : w.cell? ⟨b, 7, none⟩ = some (i64 k.next)
  c8 : w.cell? ⟨b, 8, none⟩ = some (pt b1)
  c9 : w.cell? ⟨b, 9, none⟩ = some (pt b2)
  c10 : w.cell? ⟨b, 10, none⟩ = some (i64 k.ph)
theorem IsObj.pu {w : World} {b b1 b2 : Nat} {k : Pu} (h : IsObj w b (k.list b1 b2)) : AtPu w b b1 b2 k :=
  ⟨h.at' 0 _ rfl, h.at' 1 _ rfl, h.at' 2 _ rfl, h.at' 3 _ rfl, h.at' 4 _ rfl, h.at' 5 _ rfl, h.at' 6 _ rfl, h.at' 7 _ rfl, h.at' 8 _ rfl, h.at' 9 _ rfl, h.at' 10 _ rfl⟩

/-- It lies in three blocks. -/
structure IsPu (w : World) (b b1 b2 : Nat) (k : Pu) : Prop where
  obj : IsObj w b (k.list b1 b2)
  cl : IsObj w b1 k.cl.list
  tk : IsTk w b2 k.tk
  n1 : b ≠ b1
  n2 : b ≠ b2
  n3 : b1 ≠ b2
def PuB (b b1 b2 : Nat) (i : Nat) : Prop := i = b ∨ i = b1 ∨ i = b2

theorem IsPu.keep {w w' : World} {b b1 b2 : Nat} {k : Pu} {T : Nat → Prop} (h : IsPu w b b1 b2 k) (e : Keep T w w') (h0 : ¬ T b) (h1 : ¬ T b1) (h2 : ¬ T b2) : IsPu w' b b1 b2 k :=
  ⟨h.obj.keep e h0, h.cl.keep e h1, h.tk.keep e h2, h.n1, h.n2, h.n3⟩
theorem IsPu.later {w w' : World} {b b1 b2 : Nat} {k : Pu} (h : IsPu w b b1 b2 k) (e : Below w.heap.size w w') : IsPu w' b b1 b2 k :=
  h.keep (T := fun _ => False) (Keep.of_below e) (fun h => h) (fun h => h) (fun h => h)
theorem IsPu.drew {w : World} {b b1 b2 : Nat} {k : Pu} (h : IsPu w b b1 b2 k) : IsPu w.drew b b1 b2 k := ⟨h.obj.drew, h.cl.drew, h.tk.drew, h.n1, h.n2, h.n3⟩
theorem IsPu.lt {w : World} {b b1 b2 : Nat} {k : Pu} (h : IsPu w b b1 b2 k) : ∀ i, PuB b b1 b2 i → i < w.heap.size := by
  rintro i (rfl | rfl | rfl)
  · exact h.obj.lt
  · exact h.cl.lt
  · exact h.tk.lt

theorem Does.wide {B B' : Nat → Prop} {base : Nat} {w w1 : World} {p c : Nat} {v v1 : Value} {C1 : List Int} {L1 : List Ev} (h : Does B base w w1 p c v v1 C1 L1) (hB : ∀ i, B i → B' i) (ha : ∀ i, B' i → ¬ Foot p c v i) (hlt : ∀ i, B' i → i < w.heap.size) : Does B' base w w1 p c v v1 C1 L1 :=
  ⟨h.mem, fun i hi hf => by
    rcases hf with h1 | h1 | h1
    · exact ha i hi (.inl h1)
    · exact ha i hi (.inr (.inl h1))
    · rcases h.moved i h1 with h2 | h2
      · exact ha i hi (.inr (.inr h2))
      · have := hlt i hi
        omega, h.keep.mono (fun i hi => hi.imp (hB i) id), h.moved, h.size⟩
/-- Something is turned that was made meanwhile. -/
theorem Does.aside {B T : Nat → Prop} {base : Nat} {w w1 w2 : World} {p c : Nat} {v v1 : Value} {C1 : List Int} {L1 : List Ev} (h : Does B base w w1 p c v v1 C1 L1) (k : Keep T w1 w2) (hf : ∀ i, Foot p c v1 i → ¬ T i) (hn : ∀ i, T i → w.heap.size ≤ i) : Does B base w w2 p c v v1 C1 L1 :=
  ⟨h.mem.keep k hf, h.apart, h.keep.then' k (fun i hi => .inr (hn i hi)), h.moved, Nat.le_trans h.size k.size⟩
theorem Stepped.does {base : Nat} {w w' : World} {b p c : Nat} {v v' : Value} {k' : Tk} {C' : List Int} {L' : List Ev} (h : Stepped base w w' b p c v v' k' C' L') : Does (· = b) base w w' p c v v' C' L' :=
  ⟨h.mem, fun i hi => hi ▸ h.apart, h.keep, h.moved, h.size⟩

/-- What comes of its part. -/
def Pu.after (k : Pu) (r : Int) : Pu := if r = 1 then { k with next := k.next + 1 } else if r = 2 then { k with ph := 2 } else k
theorem Pu.after_cl (k : Pu) (r : Int) : (k.after r).cl = k.cl := by
  unfold Pu.after
  split
  · rfl
  · split <;> rfl
theorem Pu.after_tk (k : Pu) (r : Int) : (k.after r).tk = k.tk := by
  unfold Pu.after
  split
  · rfl
  · split <;> rfl
/-- The word that is put in. -/
def Pu.pack (k : Pu) : Int := 1 + 4 * k.e + 8 * (k.cl.wg + 1) + 65536 * k.tk.lo + 1099511627776 * k.tk.hi
/-- A step; N is how many places there are, m the thread's first one, nb the first number's cell, hz the first hazard's. -/
def Pu.step (k : Pu) (m : Int) (nb hz : Nat) (C : List Int) (now : Int) : Pu :=
  if k.ph ≠ 0 then k else if k.next = 0 then ({ k with cl := k.cl.step m hz C } : Pu).after (k.cl.step m hz C).ph else if k.next = 1 then ({ k with tk := (stp nb k.tk C now).1 } : Pu).after (stp nb k.tk C now).1.ph
  else if k.next = 2 then { k with next := 3 } else { k with ph := 1 }
def Pu.cells (k : Pu) (N nb : Nat) (C : List Int) (now : Int) : List Int :=
  if k.ph ≠ 0 then C else if k.next = 0 then C else if k.next = 1 then (stp nb k.tk C now).2.1 else if k.next = 2 then C.set (N + k.cl.slot.toNat) k.value else C.set k.cl.slot.toNat k.pack
def Pu.ev (k : Pu) (N nb hz : Nat) (C : List Int) (now : Int) : List Ev :=
  if k.ph ≠ 0 then [] else if k.next = 0 then k.cl.ev hz C else if k.next = 1 then (stp nb k.tk C now).2.2.toList
  else if k.next = 2 then [⟨k.who, 1, (N + k.cl.slot.toNat : Nat), C.getD (N + k.cl.slot.toNat) 0, k.value, true⟩] else [⟨k.who, 1, (k.cl.slot.toNat : Nat), C.getD k.cl.slot.toNat 0, k.pack, true⟩]

/-- What may be in it. -/
structure Pu.Ok (k : Pu) (N : Nat) (m : Int) (nb hz : Nat) (C : List Int) : Prop where
  cl : k.cl.Ok N m hz C
  tk : k.tk.Ok nb N C
  ct : k.cl.t = k.t
  cs : k.cl.s = k.s
  cw : k.cl.who = k.who
  tt : k.tk.t = k.t
  ts : k.tk.s = k.s
  tw : k.tk.who = k.who
  wg : k.cl.ph = 1 ∨ 1 ≤ k.cl.steps → 0 ≤ k.cl.wg ∧ k.cl.wg ≤ 8190
  st : k.tk.ph = 1 → 0 ≤ k.tk.lo ∧ k.tk.lo ≤ k.tk.hi ∧ k.tk.hi < 16777215
  e0 : 0 ≤ k.e
  e1 : k.e ≤ 1
  v0 : 0 ≤ k.value
  v1 : k.value ≤ 18446744073709551615
  at' : k.ph = 0 → (k.next = 0 ∧ k.cl.ph = 0 ∧ k.tk.ph = 0) ∨ (k.next = 1 ∧ k.cl.ph = 1 ∧ k.tk.ph = 0) ∨ (k.next = 2 ∧ k.cl.ph = 1 ∧ k.tk.ph = 1) ∨ (k.next = 3 ∧ k.cl.ph = 1 ∧ k.tk.ph = 1)
  tm : k.tk.ph = 0 → k.tk.steps < most k.t k.tk.so k.tk.d

/-- What a step of a put leaves. -/
def PuPost (base : Nat) (w : World) (b b1 b2 p c : Nat) (v : Value) (k' : Pu) (C' : List Int) (L' : List Ev) (e0 : Ending) (e : Ending) (w' : World) : Prop :=
  e = e0 ∧ ∃ v', Does (PuB b b1 b2) base w w' p c v v' C' L' ∧ IsPu w' b b1 b2 k'

theorem next_at (s e g lo hi e' lo' hi' : Int) (w : World) (h0 : 0 ≤ g) (h1 : g ≤ 8190) :
    Calls Try.prog 84 #[wd s e g lo hi, i64 e', st lo' hi'] w fun r w' => r = .returned (wd 1 e' (g + 1) lo' hi') ∧ Below w.heap.size w w' := by
  have h := next_any s e g lo hi e' lo' hi' w
  rw [show wrap64 (g + 1) = g + 1 by unfold wrap64; omega] at h
  exact h
theorem pvalue_at (t s so d n i : Int) (j : Nat) (w : World) (h : Lay t s n) (i0 : 0 ≤ i) (i1 : i ≤ n) (hj : n + i = (j : Int)) :
    Calls Try.prog 28 #[cf t s so d, i64 i] w fun r w' => r = .returned (i64 j) ∧ Below w.heap.size w w' := by
  rw [← hj]
  exact cvalue_any t s so d n i w h i0 i1
theorem pword_at (t s so d i : Int) (j : Nat) (w : World) (hj : i = (j : Int)) :
    Calls Try.prog 32 #[cf t s so d, i64 i] w fun r w' => r = .returned (i64 j) ∧ Below w.heap.size w w' := by
  rw [← hj]
  exact cword_any t s so d i w
theorem pack_at (s e g lo hi x : Int) (w : World) (h : 0 ≤ s ∧ s ≤ 2 ∧ 0 ≤ e ∧ e ≤ 1 ∧ 0 ≤ g ∧ g ≤ 8191 ∧ 0 ≤ lo ∧ lo ≤ 16777215 ∧ 0 ≤ hi ∧ hi ≤ 16777215) (hx : s + 4 * e + 8 * g + 65536 * lo + 1099511627776 * hi = x) :
    Calls Try.prog 33 #[wd s e g lo hi] w fun r w' => r = .returned (u64 x) ∧ Below w.heap.size w w' := hx ▸ pack_right s e g lo hi w h

set_option maxHeartbeats 2000000 in
theorem proceed_any (w : World) (b b1 b2 : Nat) (k : Pu) (q : Int) (n0 : 0 ≤ k.next) (n1 : k.next ≤ 3) (hT : IsObj w b (k.list b1 b2)) :
    Calls Try.prog 83 #[pt b, i64 q] w fun r w' => r = .returned (.tuple #[]) ∧ IsObj w' b ((k.after q).list b1 b2) ∧ Keep (· = b) w w' := by
  have HT := Lib.hid hT
  obtain ⟨c0, c1, c2, c3, c4, c5, c6, c7, c8, c9, c10⟩ := hT.pu
  have f7 := hT.fz 7
  have f10 := hT.fz 10
  have e1 : wrap64 (k.next + 1) = k.next + 1 := by unfold wrap64; omega
  clear hT
  unfold Pu.after
  by_cases h1 : q = 1
  · have q1 : (q == 1) = true := by simp [h1]
    rw [if_pos h1]
    clear h1
    go_enter Try.func83, Try.ntmps83
    go_wp2
    go_end0
    exact ⟨rfl, HT.out.set 7 (.int .i64 (k.next + 1)), (Keep.refl _ _).own 7 _⟩
  · by_cases h2 : q = 2
    · have q1 : (q == 1) = false := by simp [h1]
      have q2 : (q == 2) = true := by simp [h2]
      rw [if_neg h1, if_pos h2]
      clear h1 h2
      go_enter Try.func83, Try.ntmps83
      go_wp2
      go_end0
      exact ⟨rfl, HT.out.set 10 (.int .i64 2), (Keep.refl _ _).own 10 _⟩
    · have q1 : (q == 1) = false := by simp [h1]
      have q2 : (q == 2) = false := by simp [h2]
      rw [if_neg h1, if_neg h2]
      clear h1 h2
      go_enter Try.func83, Try.ntmps83
      go_wp2
      go_end0
      exact ⟨rfl, HT.out, Keep.refl _ _⟩

section
variable (base : Nat) (w : World) (b b1 b2 p c : Nat) (v : Value) (C : List Int) (L : List Ev) (k : Pu) (N : Nat) (m : Int) (nb hz : Nat) (now : Int)

set_option maxHeartbeats 1000000 in
theorem put_rest (hp : k.ph ≠ 0) (hT : IsPu w b b1 b2 k) (hM : IsMem base w p c v C L) (ha : ∀ i, PuB b b1 b2 i → ¬ Foot p c v i) (hb : base ≤ w.heap.size) :
    Calls Try.prog 34 #[pt b, pt p, i64 now] w (PuPost base w b b1 b2 p c v k C L (.returned (i64 k.ph))) := by
  have qp : (k.ph != 0) = true := by simp [hp]
  have HS := Lib.hid (Does.refl (B := PuB b b1 b2) hM ha hb)
  have HT := Lib.hid hT
  obtain ⟨c0, c1, c2, c3, c4, c5, c6, c7, c8, c9, c10⟩ := hT.obj.pu
  clear hT hM ha hp
  go_enter Try.func34, Try.ntmps34
  go_wp2
  go_ret
  exact ⟨rfl, _, HS.out, HT.out⟩

set_option maxHeartbeats 4000000 in
theorem put_find (k1 : Cl) (C1 : List Int) (L1 : List Ev) (hp : k.ph = 0) (hn : k.next = 0) (hT : IsPu w b b1 b2 k) (ha : ∀ i, PuB b b1 b2 i → ¬ Foot p c v i)
    (hin : Calls Try.prog 25 #[pt b1, pt p] w (ClPost base w b1 p c v k1 C1 L1 (.returned (i64 k1.ph)))) :
    Calls Try.prog 34 #[pt b, pt p, i64 now] w (PuPost base w b b1 b2 p c v (({ k with cl := k1 } : Pu).after k1.ph) C1 L1 (.returned (i64 (({ k with cl := k1 } : Pu).after k1.ph).ph))) := by
  have qp : (k.ph != 0) = false := by simp [hp]
  have q0 : (k.next == 0) = true := by simp [hn]
  have HIN := Lib.hid hin
  have HT := Lib.hid hT
  have HA := Lib.hid ha
  have Hn := Lib.hid hn
  obtain ⟨c0, c1, c2, c3, c4, c5, c6, c7, c8, c9, c10⟩ := hT.obj.pu
  clear hT ha hin hp hn
  go_enter Try.func34, Try.ntmps34
  go_wp2_with fail
  refine HIN.out.mono ?_
  rintro r w1 ⟨rfl, v1, hD, hO⟩
  have HP : Hid (IsPu w1 b b1 b2 { k with cl := k1 }) := ⟨HT.out.obj.keep hD.keep (fun h => h.elim HT.out.n1 (HA.out b (.inl rfl))), hO, HT.out.tk.keep hD.keep (fun h => h.elim (fun h => HT.out.n3 h.symm) (HA.out b2 (.inr (.inr rfl)))), HT.out.n1, HT.out.n2, HT.out.n3⟩
  have HS := Lib.hid (hD.wide (B' := PuB b b1 b2) (fun i hi => .inr (.inl hi)) HA.out HT.out.lt)
  clear hD hO c0 c1 c2 c3 c4 c5 c6 c7 c8 c9 c10
  go_wp2_with fail
  refine (proceed_any w1 b b1 b2 { k with cl := k1 } k1.ph (by have := Hn.out; show 0 ≤ k.next; omega) (by have := Hn.out; show k.next ≤ 3; omega) HP.out.obj).mono ?_
  rintro r w2 ⟨rfl, hO2, hK2⟩
  obtain ⟨k2, hk2, hk2c, hk2t⟩ : ∃ k2 : Pu, ({ k with cl := k1 } : Pu).after k1.ph = k2 ∧ k2.cl = k1 ∧ k2.tk = k.tk := ⟨_, rfl, Pu.after_cl _ _, Pu.after_tk _ _⟩
  rw [hk2] at hO2 ⊢
  have HP2 : Hid (IsPu w2 b b1 b2 k2) := ⟨hO2, hk2c ▸ HP.out.cl.keep hK2 (fun h => HT.out.n1 h.symm), hk2t ▸ HP.out.tk.keep hK2 (fun h => HT.out.n2 h.symm), HT.out.n1, HT.out.n2, HT.out.n3⟩
  replace HS := Lib.hid (HS.out.own (hK2.mono (fun i hi => .inl hi)))
  have HK2 := Lib.hid hk2
  clear hk2 hk2c hk2t hO2 hK2 HP
  obtain ⟨c0, c1, c2, c3, c4, c5, c6, c7, c8, c9, c10⟩ := HP2.out.obj.pu
  go_wp2
  go_ret
  rw [HK2.out]
  exact ⟨rfl, _, HS.out, HP2.out⟩

set_option maxHeartbeats 4000000 in
theorem put_date (k1 : Tk) (C1 : List Int) (L1 : List Ev) (hp : k.ph = 0) (hn : k.next = 1) (hT : IsPu w b b1 b2 k) (ha : ∀ i, PuB b b1 b2 i → ¬ Foot p c v i)
    (hin : Calls Try.prog 27 #[pt b2, pt p, i64 now] w (TickPost base w b2 p c v k1 C1 L1 (.returned (i64 k1.ph)))) :
    Calls Try.prog 34 #[pt b, pt p, i64 now] w (PuPost base w b b1 b2 p c v (({ k with tk := k1 } : Pu).after k1.ph) C1 L1 (.returned (i64 (({ k with tk := k1 } : Pu).after k1.ph).ph))) := by
  have qp : (k.ph != 0) = false := by simp [hp]
  have q0 : (k.next == 0) = false := by simp [hn]
  have q1 : (k.next == 1) = true := by simp [hn]
  have HIN := Lib.hid hin
  have HT := Lib.hid hT
  have HA := Lib.hid ha
  have Hn := Lib.hid hn
  obtain ⟨c0, c1, c2, c3, c4, c5, c6, c7, c8, c9, c10⟩ := hT.obj.pu
  clear hT ha hin hp hn
  go_enter Try.func34, Try.ntmps34
  go_wp2_with fail
  refine HIN.out.mono ?_
  rintro r w1 ⟨rfl, v1, hS⟩
  have hD := hS.does
  have hO := hS.tk
  have HP : Hid (IsPu w1 b b1 b2 { k with tk := k1 }) := ⟨HT.out.obj.keep hD.keep (fun h => h.elim HT.out.n2 (HA.out b (.inl rfl))), HT.out.cl.keep hD.keep (fun h => h.elim HT.out.n3 (HA.out b1 (.inr (.inl rfl)))), hO, HT.out.n1, HT.out.n2, HT.out.n3⟩
  have HS := Lib.hid (hD.wide (B' := PuB b b1 b2) (fun i hi => .inr (.inr hi)) HA.out HT.out.lt)
  clear hD hO hS c0 c1 c2 c3 c4 c5 c6 c7 c8 c9 c10
  go_wp2_with fail
  refine (proceed_any w1 b b1 b2 { k with tk := k1 } k1.ph (by have := Hn.out; show 0 ≤ k.next; omega) (by have := Hn.out; show k.next ≤ 3; omega) HP.out.obj).mono ?_
  rintro r w2 ⟨rfl, hO2, hK2⟩
  obtain ⟨k2, hk2, hk2c, hk2t⟩ : ∃ k2 : Pu, ({ k with tk := k1 } : Pu).after k1.ph = k2 ∧ k2.cl = k.cl ∧ k2.tk = k1 := ⟨_, rfl, Pu.after_cl _ _, Pu.after_tk _ _⟩
  rw [hk2] at hO2 ⊢
  have HP2 : Hid (IsPu w2 b b1 b2 k2) := ⟨hO2, hk2c ▸ HP.out.cl.keep hK2 (fun h => HT.out.n1 h.symm), hk2t ▸ HP.out.tk.keep hK2 (fun h => HT.out.n2 h.symm), HT.out.n1, HT.out.n2, HT.out.n3⟩
  replace HS := Lib.hid (HS.out.own (hK2.mono (fun i hi => .inl hi)))
  have HK2 := Lib.hid hk2
  clear hk2 hk2c hk2t hO2 hK2 HP
  obtain ⟨c0, c1, c2, c3, c4, c5, c6, c7, c8, c9, c10⟩ := HP2.out.obj.pu
  go_wp2
  go_ret
  rw [HK2.out]
  exact ⟨rfl, _, HS.out, HP2.out⟩

set_option maxRecDepth 100000 in
set_option maxHeartbeats 4000000 in
theorem put_fill (hp : k.ph = 0) (hn : k.next = 2) (j : Nat) (hj : k.cl.slot = (j : Int)) (hl : Lay k.t k.s N) (hjN : (j : Int) < N) (x : Int) (hx : C[N + j]? = some x) (v0 : 0 ≤ k.value) (v1 : k.value ≤ 18446744073709551615) (hT : IsPu w b b1 b2 k) (hM : IsMem base w p c v C L) (ha : ∀ i, PuB b b1 b2 i → ¬ Foot p c v i) (hb : base ≤ w.heap.size) (hL : L.length < 1000000000) :
    Calls Try.prog 34 #[pt b, pt p, i64 now] w (PuPost base w b b1 b2 p c v { k with next := 3 } (C.set (N + j) k.value) (L ++ [⟨k.who, 1, (N + j : Nat), x, k.value, true⟩]) (.returned (i64 0))) := by
  have qp : (k.ph != 0) = false := by simp [hp]
  have q0 : (k.next == 0) = false := by simp [hn]
  have q1 : (k.next == 1) = false := by simp [hn]
  have q2 : (k.next == 2) = true := by simp [hn]
  have hn1 := hl.n1; have hn2 := hl.n2
  have HS := Lib.hid (Does.refl (B := PuB b b1 b2) hM ha hb)
  have HT := Lib.hid hT
  have HJ := Lib.hid hj
  have HX := Lib.hid hx
  have Hp := Lib.hid hp
  have hs0 : 0 ≤ k.cl.slot := by omega
  have hs1 : k.cl.slot ≤ (N : Int) := by omega
  obtain ⟨c0, c1, c2, c3, c4, c5, c6, c7, c8, c9, c10⟩ := hT.obj.pu
  clear hT hM ha hp hn hj hx
  go_enter Try.func34, Try.ntmps34
  go_wp2_with fail
  clear c0 c1 c2 c3 c4 c5 c6 c7 c8 c9 c10
  refine wp_region_seqS ((fun w' => AtPu w' b b1 b2 k)) ((0, true) :: (1, true) :: (2, true) :: (3, true) :: (4, true) :: (5, true) :: (6, true) :: (7, true) :: (8, true) :: (9, true) :: (10, true) :: (11, true) :: (12, true) :: (15, true) :: (16, true) :: (17, true) :: (18, true) :: (13, false) :: (14, false) :: (19, false) :: []) (by kernel_rfl) (by kernel_rfl) (by kernel_rfl) (by decide) (fun _ _ _ _ _ h => h) (HT.out.obj.drew.pu) ?_
  replace HT := Lib.hid HT.out.drew
  replace HS := Lib.hid HS.out.drew
  repeat (first | (refine seq_take (v := ?_) rfl ?_ ?_ ?_; rotate_left 1; rfl; (focus (intro wS hSw; obtain ⟨c0, c1, c2, c3, c4, c5, c6, c7, c8, c9, c10⟩ := hSw; go_simp; first | done | with_reducible rfl)); (try simp only [Act.put, List.setIfInBounds_toArray, List.set_cons_zero, List.set_cons_succ])) | (refine seq_skip rfl ?_ ?_; rfl; (try simp only [Act.put, List.setIfInBounds_toArray, List.set_cons_zero, List.set_cons_succ])))
  refine seq_run rfl (fun K hK => ?_)
  go_simp
  go_at_call 29
  refine (clslot_any _ b1 _ HT.out.cl).mono ?_
  rintro r w' ⟨rfl, rfl⟩
  (try go_wp2_with fail)
  refine hK.out _ _ (HT.out.obj.pu) (fun _ => ?_)
  (try simp only [Act.put, List.setIfInBounds_toArray, List.set_cons_zero, List.set_cons_succ])
  clear hK K
  repeat (first | (refine seq_take (v := ?_) rfl ?_ ?_ ?_; rotate_left 1; rfl; (focus (intro wS hSw; obtain ⟨c0, c1, c2, c3, c4, c5, c6, c7, c8, c9, c10⟩ := hSw; go_simp; first | done | with_reducible rfl)); (try simp only [Act.put, List.setIfInBounds_toArray, List.set_cons_zero, List.set_cons_succ])) | (refine seq_skip rfl ?_ ?_; rfl; (try simp only [Act.put, List.setIfInBounds_toArray, List.set_cons_zero, List.set_cons_succ])))
  refine seq_run rfl (fun K hK => ?_)
  go_simp
  go_at_call 28
  refine (pvalue_at _ _ _ _ N _ (N + j) _ hl hs0 hs1 (by have := HJ.out; omega)).mono ?_
  rintro r w1 ⟨rfl, hb1⟩
  (try go_wp2_with fail)
  replace HT := Lib.hid (HT.out.later hb1)
  replace HS := Lib.hid (HS.out.later hb1)
  clear hb1
  refine hK.out _ _ (HT.out.obj.pu) (fun _ => ?_)
  (try simp only [Act.put, List.setIfInBounds_toArray, List.set_cons_zero, List.set_cons_succ])
  clear hK K
  repeat (first | (refine seq_take (v := ?_) rfl ?_ ?_ ?_; rotate_left 1; rfl; (focus (intro wS hSw; obtain ⟨c0, c1, c2, c3, c4, c5, c6, c7, c8, c9, c10⟩ := hSw; go_simp; first | done | with_reducible rfl)); (try simp only [Act.put, List.setIfInBounds_toArray, List.set_cons_zero, List.set_cons_succ])) | (refine seq_skip rfl ?_ ?_; rfl; (try simp only [Act.put, List.setIfInBounds_toArray, List.set_cons_zero, List.set_cons_succ])))
  refine seq_run rfl (fun K hK => ?_)
  go_simp
  go_at_call 22
  refine (store_in base _ p c _ _ _ k.who (N + j) x k.value HS.out.mem HX.out HS.out.size hL v0 v1).mono ?_
  rintro r w2 ⟨rfl, v2, hT2⟩
  (try go_wp2_with fail)
  have hlt := HT.out.lt
  replace HT := Lib.hid (HT.out.keep hT2.keep (HS.out.apart b (.inl rfl)) (HS.out.apart b1 (.inr (.inl rfl))) (HS.out.apart b2 (.inr (.inr rfl))))
  replace HS := Lib.hid (HS.out.cells hlt hT2)
  clear hT2 hlt
  refine hK.out _ _ (HT.out.obj.pu) (fun _ => ?_)
  (try simp only [Act.put, List.setIfInBounds_toArray, List.set_cons_zero, List.set_cons_succ])
  clear hK K
  refine seq_done ?_
  obtain ⟨c0, c1, c2, c3, c4, c5, c6, c7, c8, c9, c10⟩ := HT.out.obj.pu
  rw [Hp.out] at c10
  have f7 := HT.out.obj.fz 7
  go_wp2
  go_ret
  have hk := (Keep.refl (· = b) w2).own 7 (.int .i64 3)
  refine ⟨rfl, _, HS.out.own (hk.mono (fun i hi => .inl hi)), HT.out.obj.set 7 (.int .i64 3), HT.out.cl.keep hk (fun h => HT.out.n1 h.symm), HT.out.tk.keep hk (fun h => HT.out.n2 h.symm), HT.out.n1, HT.out.n2, HT.out.n3⟩

set_option maxRecDepth 100000 in
set_option maxHeartbeats 8000000 in
theorem put_show (hp : k.ph = 0) (hn : k.next = 3) (j : Nat) (hj : k.cl.slot = (j : Int)) (x : Int) (hx : C[j]? = some x) (hc : k.cl.ph = 1) (g0 : 0 ≤ k.cl.wg) (g1 : k.cl.wg ≤ 8190) (l0 : 0 ≤ k.tk.lo) (l1 : k.tk.lo ≤ k.tk.hi) (l2 : k.tk.hi < 16777215) (e0 : 0 ≤ k.e) (e1 : k.e ≤ 1) (hT : IsPu w b b1 b2 k) (hM : IsMem base w p c v C L) (ha : ∀ i, PuB b b1 b2 i → ¬ Foot p c v i) (hb : base ≤ w.heap.size) (hL : L.length < 1000000000) :
    Calls Try.prog 34 #[pt b, pt p, i64 now] w (PuPost base w b b1 b2 p c v { k with ph := 1 } (C.set j k.pack) (L ++ [⟨k.who, 1, (j : Nat), x, k.pack, true⟩]) (.returned (i64 1))) := by
  have qp : (k.ph != 0) = false := by simp [hp]
  have q0 : (k.next == 0) = false := by simp [hn]
  have q1 : (k.next == 1) = false := by simp [hn]
  have q2 : (k.next == 2) = false := by simp [hn]
  have q3 : (k.next == 3) = true := by simp [hn]
  have HS := Lib.hid (Does.refl (B := PuB b b1 b2) hM ha hb)
  have HP := Lib.hid hT
  have HJ := Lib.hid hj
  have HX := Lib.hid hx
  have HCP := Lib.hid hc
  have Hpk : Hid (0 ≤ k.pack ∧ k.pack ≤ 18446744073709551615) := by show _ ∧ _; unfold Pu.pack; omega
  obtain ⟨c0, c1, c2, c3, c4, c5, c6, c7, c8, c9, c10⟩ := hT.obj.pu
  clear hT hM ha hp hn hj hx hc
  go_enter Try.func34, Try.ntmps34
  go_wp2_with fail
  go_cut [7] (fun s7 wx => ∃ bx, s7 = .pointer (some ⟨bx, 0, none⟩) ∧ Hid (IsObj wx bx [i64 1, i64 k.e, i64 (k.cl.wg + 1), i64 k.tk.lo, i64 k.tk.hi]) ∧ Hid (∀ i, Foot p c v i → bx ≠ i) ∧ Hid (IsPu wx b b1 b2 k) ∧ Hid (Does (PuB b b1 b2) base w wx p c v v C L))
  case first =>
    refine wp_region_seqT (fun w' => AtPu w' b b1 b2 k) (.take 0 (.take 1 (.take 2 (.take 3 (.take 5 (.take 6 (.take 7 (.take 8 (.take 9 (.take 10 (.take 11 (.take 12 (.two 4 (.two 13 (.two 14 (.one 15 (.one 16 .nil)) 15 (.one 14 (.one 16 .nil))) 15 (.one 13 (.one 14 (.one 16 .nil)))) 15 (.one 4 (.one 13 (.one 14 (.one 16 .nil))))))))))))))))) (by kernel_rfl) (by kernel_rfl) (by kernel_rfl) (by decide) (fun _ _ _ _ _ h => h) HP.out.obj.drew.pu ?_
    repeat (refine seqT_take (v := ?_) rfl ?_ ?_ ?_; rotate_left 1; rfl; (focus (intro wS hSw; obtain ⟨c0, c1, c2, c3, c4, c5, c6, c7, c8, c9, c10⟩ := hSw; go_simp; first | done | with_reducible rfl)); (try simp only [Act.put, List.setIfInBounds_toArray, List.set_cons_zero, List.set_cons_succ]))
    clear c0 c1 c2 c3 c4 c5 c6 c7 c8 c9 c10
    replace HP := Lib.hid HP.out.drew
    replace HS := Lib.hid HS.out.drew
    have HA := Lib.hid HP.out.obj.pu
    generalize w.drew = ww0 at HP HS HA ⊢
    refine ⟨?_, ?_⟩
    · refine runT rfl (fun K hK => ?_)
      go_simp
      go_at_call 30
      refine (clword_any _ b1 _ HCP.out HP.out.cl).mono ?_
      rintro r ww1 ⟨rfl, hb⟩
      (try go_wp2_with fail)
      replace HP := Lib.hid (HP.out.later hb)
      replace HS := Lib.hid (HS.out.later hb)
      replace HA := Lib.hid HP.out.obj.pu
      clear hb
      refine hK.out _ _ HA.out (fun _ => ?_)
      (try simp only [Act.put, List.setIfInBounds_toArray, List.set_cons_zero, List.set_cons_succ])
      clear hK K
      try clear ww0
      refine ⟨?_, ?_⟩
      · refine runT rfl (fun K hK => ?_)
        go_simp
        go_at_call 31
        refine (stamp_any _ b2 _ HP.out.tk).mono ?_
        rintro r ww2 ⟨rfl, hb⟩
        (try go_wp2_with fail)
        replace HP := Lib.hid (HP.out.later hb)
        replace HS := Lib.hid (HS.out.later hb)
        replace HA := Lib.hid HP.out.obj.pu
        clear hb
        refine hK.out _ _ HA.out (fun _ => ?_)
        (try simp only [Act.put, List.setIfInBounds_toArray, List.set_cons_zero, List.set_cons_succ])
        clear hK K
        try clear ww1
        refine ⟨?_, ?_⟩
        · refine runT rfl (fun K hK => ?_)
          go_simp
          go_at_call 84
          refine (next_at _ _ _ _ _ _ _ _ _ g0 g1).mono ?_
          rintro r ww3 ⟨rfl, hb⟩
          (try go_wp2_with fail)
          replace HP := Lib.hid (HP.out.later hb)
          replace HS := Lib.hid (HS.out.later hb)
          replace HA := Lib.hid HP.out.obj.pu
          clear hb
          refine hK.out _ _ HA.out (fun _ => ?_)
          (try simp only [Act.put, List.setIfInBounds_toArray, List.set_cons_zero, List.set_cons_succ])
          clear hK K
          try clear ww2
          refine runT rfl (fun K hK => ?_)
          go_simp
          have hb := below_new (Below.refl ww3.heap.size ww3) (.cells #[i64 0, i64 0, i64 0, i64 0, i64 0] 54)
          have Hx : Hid (IsObj (ww3.alloc (.cells #[i64 0, i64 0, i64 0, i64 0, i64 0] 54)) ww3.heap.size [i64 0, i64 0, i64 0, i64 0, i64 0]) := IsObj.made ww3 [i64 0, i64 0, i64 0, i64 0, i64 0] 54
          have Hn : Hid (ww3.heap.size ≠ b ∧ ww3.heap.size ≠ b1 ∧ ww3.heap.size ≠ b2 ∧ (∀ i, Foot p c v i → ww3.heap.size ≠ i) ∧ w.heap.size ≤ ww3.heap.size) := ⟨fun e => by have := HP.out.obj.lt; omega, fun e => by have := HP.out.cl.lt; omega, fun e => by have := HP.out.tk.lt; omega, fun i hi e => by have := (HS.out.mem.foot i hi).2; omega, HS.out.keep.size⟩
          replace HP := Lib.hid (HP.out.later hb)
          replace HS := Lib.hid (HS.out.later hb)
          replace HA := Lib.hid HP.out.obj.pu
          clear hb
          generalize ww3.alloc (.cells #[i64 0, i64 0, i64 0, i64 0, i64 0] 54) = ww4 at HA HP HS Hx ⊢
          generalize ww3.heap.size = bx at Hx Hn ⊢
          refine hK.out _ _ HA.out (fun _ => ?_)
          (try simp only [Act.put, List.setIfInBounds_toArray, List.set_cons_zero, List.set_cons_succ])
          clear hK K
          try clear ww3
          refine runT rfl (fun K hK => ?_)
          have q0 := Hx.out.at' 0 _ rfl
          have q1 := Hx.out.at' 1 _ rfl
          have q2 := Hx.out.at' 2 _ rfl
          have q3 := Hx.out.at' 3 _ rfl
          have q4 := Hx.out.at' 4 _ rfl
          have f0 := Hx.out.fz 0
          have f1 := Hx.out.fz 1
          have f2 := Hx.out.fz 2
          have f3 := Hx.out.fz 3
          have f4 := Hx.out.fz 4
          go_simp
          clear q0 q1 q2 q3 q4 f0 f1 f2 f3 f4
          have hk5 : Keep (· = bx) ww4 (((((ww4.setCell ⟨bx, 0, none⟩ (i64 1)).setCell ⟨bx, 1, none⟩ (i64 k.e)).setCell ⟨bx, 2, none⟩ (i64 (k.cl.wg + 1))).setCell ⟨bx, 3, none⟩ (i64 k.tk.lo)).setCell ⟨bx, 4, none⟩ (i64 k.tk.hi)) := (((((Keep.refl _ _).own 0 _).own 1 _).own 2 _).own 3 _).own 4 _
          replace Hx : Hid (IsObj (((((ww4.setCell ⟨bx, 0, none⟩ (i64 1)).setCell ⟨bx, 1, none⟩ (i64 k.e)).setCell ⟨bx, 2, none⟩ (i64 (k.cl.wg + 1))).setCell ⟨bx, 3, none⟩ (i64 k.tk.lo)).setCell ⟨bx, 4, none⟩ (i64 k.tk.hi)) bx [i64 1, i64 k.e, i64 (k.cl.wg + 1), i64 k.tk.lo, i64 k.tk.hi]) := ((((Hx.out.set 0 (i64 1)).set 1 (i64 k.e)).set 2 (i64 (k.cl.wg + 1))).set 3 (i64 k.tk.lo)).set 4 (i64 k.tk.hi)
          generalize ((((ww4.setCell ⟨bx, 0, none⟩ (i64 1)).setCell ⟨bx, 1, none⟩ (i64 k.e)).setCell ⟨bx, 2, none⟩ (i64 (k.cl.wg + 1))).setCell ⟨bx, 3, none⟩ (i64 k.tk.lo)).setCell ⟨bx, 4, none⟩ (i64 k.tk.hi) = wz at hk5 Hx ⊢
          replace HP := Lib.hid (HP.out.keep hk5 (fun h => Hn.out.1 h.symm) (fun h => Hn.out.2.1 h.symm) (fun h => Hn.out.2.2.1 h.symm))
          replace HS := Lib.hid (HS.out.aside hk5 (fun i hi e => Hn.out.2.2.2.1 i hi e.symm) (fun q h => h ▸ Hn.out.2.2.2.2))
          replace HA := Lib.hid HP.out.obj.pu
          refine hK.out _ _ HA.out (fun _ => ?_)
          (try simp only [Act.put, List.setIfInBounds_toArray, List.set_cons_zero, List.set_cons_succ])
          clear hK K hk5
          refine seqT_done ?_
          go_wp2_with fail
          go_meet
          exact ⟨bx, rfl, Hx, Lib.hid Hn.out.2.2.2.1, HP, HS⟩
        · refine runT rfl (fun K hK => ?_)
          go_simp
          have hb := below_new (Below.refl ww2.heap.size ww2) (.cells #[i64 0, i64 0, i64 0, i64 0, i64 0] 54)
          have Hx : Hid (IsObj (ww2.alloc (.cells #[i64 0, i64 0, i64 0, i64 0, i64 0] 54)) ww2.heap.size [i64 0, i64 0, i64 0, i64 0, i64 0]) := IsObj.made ww2 [i64 0, i64 0, i64 0, i64 0, i64 0] 54
          have Hn : Hid (ww2.heap.size ≠ b ∧ ww2.heap.size ≠ b1 ∧ ww2.heap.size ≠ b2 ∧ (∀ i, Foot p c v i → ww2.heap.size ≠ i) ∧ w.heap.size ≤ ww2.heap.size) := ⟨fun e => by have := HP.out.obj.lt; omega, fun e => by have := HP.out.cl.lt; omega, fun e => by have := HP.out.tk.lt; omega, fun i hi e => by have := (HS.out.mem.foot i hi).2; omega, HS.out.keep.size⟩
          replace HP := Lib.hid (HP.out.later hb)
          replace HS := Lib.hid (HS.out.later hb)
          replace HA := Lib.hid HP.out.obj.pu
          clear hb
          generalize ww2.alloc (.cells #[i64 0, i64 0, i64 0, i64 0, i64 0] 54) = ww3 at HA HP HS Hx ⊢
          generalize ww2.heap.size = bx at Hx Hn ⊢
          refine hK.out _ _ HA.out (fun _ => ?_)
          (try simp only [Act.put, List.setIfInBounds_toArray, List.set_cons_zero, List.set_cons_succ])
          clear hK K
          try clear ww2
          refine runT rfl (fun K hK => ?_)
          go_simp
          go_at_call 84
          refine (next_at _ _ _ _ _ _ _ _ _ g0 g1).mono ?_
          rintro r ww4 ⟨rfl, hb⟩
          (try go_wp2_with fail)
          replace Hx := Lib.hid (Hx.out.later hb)
          replace HP := Lib.hid (HP.out.later hb)
          replace HS := Lib.hid (HS.out.later hb)
          replace HA := Lib.hid HP.out.obj.pu
          clear hb
          refine hK.out _ _ HA.out (fun _ => ?_)
          (try simp only [Act.put, List.setIfInBounds_toArray, List.set_cons_zero, List.set_cons_succ])
          clear hK K
          try clear ww3
          refine runT rfl (fun K hK => ?_)
          have q0 := Hx.out.at' 0 _ rfl
          have q1 := Hx.out.at' 1 _ rfl
          have q2 := Hx.out.at' 2 _ rfl
          have q3 := Hx.out.at' 3 _ rfl
          have q4 := Hx.out.at' 4 _ rfl
          have f0 := Hx.out.fz 0
          have f1 := Hx.out.fz 1
          have f2 := Hx.out.fz 2
          have f3 := Hx.out.fz 3
          have f4 := Hx.out.fz 4
          go_simp
          clear q0 q1 q2 q3 q4 f0 f1 f2 f3 f4
          have hk5 : Keep (· = bx) ww4 (((((ww4.setCell ⟨bx, 0, none⟩ (i64 1)).setCell ⟨bx, 1, none⟩ (i64 k.e)).setCell ⟨bx, 2, none⟩ (i64 (k.cl.wg + 1))).setCell ⟨bx, 3, none⟩ (i64 k.tk.lo)).setCell ⟨bx, 4, none⟩ (i64 k.tk.hi)) := (((((Keep.refl _ _).own 0 _).own 1 _).own 2 _).own 3 _).own 4 _
          replace Hx : Hid (IsObj (((((ww4.setCell ⟨bx, 0, none⟩ (i64 1)).setCell ⟨bx, 1, none⟩ (i64 k.e)).setCell ⟨bx, 2, none⟩ (i64 (k.cl.wg + 1))).setCell ⟨bx, 3, none⟩ (i64 k.tk.lo)).setCell ⟨bx, 4, none⟩ (i64 k.tk.hi)) bx [i64 1, i64 k.e, i64 (k.cl.wg + 1), i64 k.tk.lo, i64 k.tk.hi]) := ((((Hx.out.set 0 (i64 1)).set 1 (i64 k.e)).set 2 (i64 (k.cl.wg + 1))).set 3 (i64 k.tk.lo)).set 4 (i64 k.tk.hi)
          generalize ((((ww4.setCell ⟨bx, 0, none⟩ (i64 1)).setCell ⟨bx, 1, none⟩ (i64 k.e)).setCell ⟨bx, 2, none⟩ (i64 (k.cl.wg + 1))).setCell ⟨bx, 3, none⟩ (i64 k.tk.lo)).setCell ⟨bx, 4, none⟩ (i64 k.tk.hi) = wz at hk5 Hx ⊢
          replace HP := Lib.hid (HP.out.keep hk5 (fun h => Hn.out.1 h.symm) (fun h => Hn.out.2.1 h.symm) (fun h => Hn.out.2.2.1 h.symm))
          replace HS := Lib.hid (HS.out.aside hk5 (fun i hi e => Hn.out.2.2.2.1 i hi e.symm) (fun q h => h ▸ Hn.out.2.2.2.2))
          replace HA := Lib.hid HP.out.obj.pu
          refine hK.out _ _ HA.out (fun _ => ?_)
          (try simp only [Act.put, List.setIfInBounds_toArray, List.set_cons_zero, List.set_cons_succ])
          clear hK K hk5
          refine seqT_done ?_
          go_wp2_with fail
          go_meet
          exact ⟨bx, rfl, Hx, Lib.hid Hn.out.2.2.2.1, HP, HS⟩
      · refine runT rfl (fun K hK => ?_)
        go_simp
        have hb := below_new (Below.refl ww1.heap.size ww1) (.cells #[i64 0, i64 0, i64 0, i64 0, i64 0] 54)
        have Hx : Hid (IsObj (ww1.alloc (.cells #[i64 0, i64 0, i64 0, i64 0, i64 0] 54)) ww1.heap.size [i64 0, i64 0, i64 0, i64 0, i64 0]) := IsObj.made ww1 [i64 0, i64 0, i64 0, i64 0, i64 0] 54
        have Hn : Hid (ww1.heap.size ≠ b ∧ ww1.heap.size ≠ b1 ∧ ww1.heap.size ≠ b2 ∧ (∀ i, Foot p c v i → ww1.heap.size ≠ i) ∧ w.heap.size ≤ ww1.heap.size) := ⟨fun e => by have := HP.out.obj.lt; omega, fun e => by have := HP.out.cl.lt; omega, fun e => by have := HP.out.tk.lt; omega, fun i hi e => by have := (HS.out.mem.foot i hi).2; omega, HS.out.keep.size⟩
        replace HP := Lib.hid (HP.out.later hb)
        replace HS := Lib.hid (HS.out.later hb)
        replace HA := Lib.hid HP.out.obj.pu
        clear hb
        generalize ww1.alloc (.cells #[i64 0, i64 0, i64 0, i64 0, i64 0] 54) = ww2 at HA HP HS Hx ⊢
        generalize ww1.heap.size = bx at Hx Hn ⊢
        refine hK.out _ _ HA.out (fun _ => ?_)
        (try simp only [Act.put, List.setIfInBounds_toArray, List.set_cons_zero, List.set_cons_succ])
        clear hK K
        try clear ww1
        refine runT rfl (fun K hK => ?_)
        go_simp
        go_at_call 31
        refine (stamp_any _ b2 _ HP.out.tk).mono ?_
        rintro r ww3 ⟨rfl, hb⟩
        (try go_wp2_with fail)
        replace Hx := Lib.hid (Hx.out.later hb)
        replace HP := Lib.hid (HP.out.later hb)
        replace HS := Lib.hid (HS.out.later hb)
        replace HA := Lib.hid HP.out.obj.pu
        clear hb
        refine hK.out _ _ HA.out (fun _ => ?_)
        (try simp only [Act.put, List.setIfInBounds_toArray, List.set_cons_zero, List.set_cons_succ])
        clear hK K
        try clear ww2
        refine runT rfl (fun K hK => ?_)
        go_simp
        go_at_call 84
        refine (next_at _ _ _ _ _ _ _ _ _ g0 g1).mono ?_
        rintro r ww4 ⟨rfl, hb⟩
        (try go_wp2_with fail)
        replace Hx := Lib.hid (Hx.out.later hb)
        replace HP := Lib.hid (HP.out.later hb)
        replace HS := Lib.hid (HS.out.later hb)
        replace HA := Lib.hid HP.out.obj.pu
        clear hb
        refine hK.out _ _ HA.out (fun _ => ?_)
        (try simp only [Act.put, List.setIfInBounds_toArray, List.set_cons_zero, List.set_cons_succ])
        clear hK K
        try clear ww3
        refine runT rfl (fun K hK => ?_)
        have q0 := Hx.out.at' 0 _ rfl
        have q1 := Hx.out.at' 1 _ rfl
        have q2 := Hx.out.at' 2 _ rfl
        have q3 := Hx.out.at' 3 _ rfl
        have q4 := Hx.out.at' 4 _ rfl
        have f0 := Hx.out.fz 0
        have f1 := Hx.out.fz 1
        have f2 := Hx.out.fz 2
        have f3 := Hx.out.fz 3
        have f4 := Hx.out.fz 4
        go_simp
        clear q0 q1 q2 q3 q4 f0 f1 f2 f3 f4
        have hk5 : Keep (· = bx) ww4 (((((ww4.setCell ⟨bx, 0, none⟩ (i64 1)).setCell ⟨bx, 1, none⟩ (i64 k.e)).setCell ⟨bx, 2, none⟩ (i64 (k.cl.wg + 1))).setCell ⟨bx, 3, none⟩ (i64 k.tk.lo)).setCell ⟨bx, 4, none⟩ (i64 k.tk.hi)) := (((((Keep.refl _ _).own 0 _).own 1 _).own 2 _).own 3 _).own 4 _
        replace Hx : Hid (IsObj (((((ww4.setCell ⟨bx, 0, none⟩ (i64 1)).setCell ⟨bx, 1, none⟩ (i64 k.e)).setCell ⟨bx, 2, none⟩ (i64 (k.cl.wg + 1))).setCell ⟨bx, 3, none⟩ (i64 k.tk.lo)).setCell ⟨bx, 4, none⟩ (i64 k.tk.hi)) bx [i64 1, i64 k.e, i64 (k.cl.wg + 1), i64 k.tk.lo, i64 k.tk.hi]) := ((((Hx.out.set 0 (i64 1)).set 1 (i64 k.e)).set 2 (i64 (k.cl.wg + 1))).set 3 (i64 k.tk.lo)).set 4 (i64 k.tk.hi)
        generalize ((((ww4.setCell ⟨bx, 0, none⟩ (i64 1)).setCell ⟨bx, 1, none⟩ (i64 k.e)).setCell ⟨bx, 2, none⟩ (i64 (k.cl.wg + 1))).setCell ⟨bx, 3, none⟩ (i64 k.tk.lo)).setCell ⟨bx, 4, none⟩ (i64 k.tk.hi) = wz at hk5 Hx ⊢
        replace HP := Lib.hid (HP.out.keep hk5 (fun h => Hn.out.1 h.symm) (fun h => Hn.out.2.1 h.symm) (fun h => Hn.out.2.2.1 h.symm))
        replace HS := Lib.hid (HS.out.aside hk5 (fun i hi e => Hn.out.2.2.2.1 i hi e.symm) (fun q h => h ▸ Hn.out.2.2.2.2))
        replace HA := Lib.hid HP.out.obj.pu
        refine hK.out _ _ HA.out (fun _ => ?_)
        (try simp only [Act.put, List.setIfInBounds_toArray, List.set_cons_zero, List.set_cons_succ])
        clear hK K hk5
        refine seqT_done ?_
        go_wp2_with fail
        go_meet
        exact ⟨bx, rfl, Hx, Lib.hid Hn.out.2.2.2.1, HP, HS⟩
    · refine runT rfl (fun K hK => ?_)
      go_simp
      have hb := below_new (Below.refl ww0.heap.size ww0) (.cells #[i64 0, i64 0, i64 0, i64 0, i64 0] 54)
      have Hx : Hid (IsObj (ww0.alloc (.cells #[i64 0, i64 0, i64 0, i64 0, i64 0] 54)) ww0.heap.size [i64 0, i64 0, i64 0, i64 0, i64 0]) := IsObj.made ww0 [i64 0, i64 0, i64 0, i64 0, i64 0] 54
      have Hn : Hid (ww0.heap.size ≠ b ∧ ww0.heap.size ≠ b1 ∧ ww0.heap.size ≠ b2 ∧ (∀ i, Foot p c v i → ww0.heap.size ≠ i) ∧ w.heap.size ≤ ww0.heap.size) := ⟨fun e => by have := HP.out.obj.lt; omega, fun e => by have := HP.out.cl.lt; omega, fun e => by have := HP.out.tk.lt; omega, fun i hi e => by have := (HS.out.mem.foot i hi).2; omega, HS.out.keep.size⟩
      replace HP := Lib.hid (HP.out.later hb)
      replace HS := Lib.hid (HS.out.later hb)
      replace HA := Lib.hid HP.out.obj.pu
      clear hb
      generalize ww0.alloc (.cells #[i64 0, i64 0, i64 0, i64 0, i64 0] 54) = ww1 at HA HP HS Hx ⊢
      generalize ww0.heap.size = bx at Hx Hn ⊢
      refine hK.out _ _ HA.out (fun _ => ?_)
      (try simp only [Act.put, List.setIfInBounds_toArray, List.set_cons_zero, List.set_cons_succ])
      clear hK K
      try clear ww0
      refine runT rfl (fun K hK => ?_)
      go_simp
      go_at_call 30
      refine (clword_any _ b1 _ HCP.out HP.out.cl).mono ?_
      rintro r ww2 ⟨rfl, hb⟩
      (try go_wp2_with fail)
      replace Hx := Lib.hid (Hx.out.later hb)
      replace HP := Lib.hid (HP.out.later hb)
      replace HS := Lib.hid (HS.out.later hb)
      replace HA := Lib.hid HP.out.obj.pu
      clear hb
      refine hK.out _ _ HA.out (fun _ => ?_)
      (try simp only [Act.put, List.setIfInBounds_toArray, List.set_cons_zero, List.set_cons_succ])
      clear hK K
      try clear ww1
      refine runT rfl (fun K hK => ?_)
      go_simp
      go_at_call 31
      refine (stamp_any _ b2 _ HP.out.tk).mono ?_
      rintro r ww3 ⟨rfl, hb⟩
      (try go_wp2_with fail)
      replace Hx := Lib.hid (Hx.out.later hb)
      replace HP := Lib.hid (HP.out.later hb)
      replace HS := Lib.hid (HS.out.later hb)
      replace HA := Lib.hid HP.out.obj.pu
      clear hb
      refine hK.out _ _ HA.out (fun _ => ?_)
      (try simp only [Act.put, List.setIfInBounds_toArray, List.set_cons_zero, List.set_cons_succ])
      clear hK K
      try clear ww2
      refine runT rfl (fun K hK => ?_)
      go_simp
      go_at_call 84
      refine (next_at _ _ _ _ _ _ _ _ _ g0 g1).mono ?_
      rintro r ww4 ⟨rfl, hb⟩
      (try go_wp2_with fail)
      replace Hx := Lib.hid (Hx.out.later hb)
      replace HP := Lib.hid (HP.out.later hb)
      replace HS := Lib.hid (HS.out.later hb)
      replace HA := Lib.hid HP.out.obj.pu
      clear hb
      refine hK.out _ _ HA.out (fun _ => ?_)
      (try simp only [Act.put, List.setIfInBounds_toArray, List.set_cons_zero, List.set_cons_succ])
      clear hK K
      try clear ww3
      refine runT rfl (fun K hK => ?_)
      have q0 := Hx.out.at' 0 _ rfl
      have q1 := Hx.out.at' 1 _ rfl
      have q2 := Hx.out.at' 2 _ rfl
      have q3 := Hx.out.at' 3 _ rfl
      have q4 := Hx.out.at' 4 _ rfl
      have f0 := Hx.out.fz 0
      have f1 := Hx.out.fz 1
      have f2 := Hx.out.fz 2
      have f3 := Hx.out.fz 3
      have f4 := Hx.out.fz 4
      go_simp
      clear q0 q1 q2 q3 q4 f0 f1 f2 f3 f4
      have hk5 : Keep (· = bx) ww4 (((((ww4.setCell ⟨bx, 0, none⟩ (i64 1)).setCell ⟨bx, 1, none⟩ (i64 k.e)).setCell ⟨bx, 2, none⟩ (i64 (k.cl.wg + 1))).setCell ⟨bx, 3, none⟩ (i64 k.tk.lo)).setCell ⟨bx, 4, none⟩ (i64 k.tk.hi)) := (((((Keep.refl _ _).own 0 _).own 1 _).own 2 _).own 3 _).own 4 _
      replace Hx : Hid (IsObj (((((ww4.setCell ⟨bx, 0, none⟩ (i64 1)).setCell ⟨bx, 1, none⟩ (i64 k.e)).setCell ⟨bx, 2, none⟩ (i64 (k.cl.wg + 1))).setCell ⟨bx, 3, none⟩ (i64 k.tk.lo)).setCell ⟨bx, 4, none⟩ (i64 k.tk.hi)) bx [i64 1, i64 k.e, i64 (k.cl.wg + 1), i64 k.tk.lo, i64 k.tk.hi]) := ((((Hx.out.set 0 (i64 1)).set 1 (i64 k.e)).set 2 (i64 (k.cl.wg + 1))).set 3 (i64 k.tk.lo)).set 4 (i64 k.tk.hi)
      generalize ((((ww4.setCell ⟨bx, 0, none⟩ (i64 1)).setCell ⟨bx, 1, none⟩ (i64 k.e)).setCell ⟨bx, 2, none⟩ (i64 (k.cl.wg + 1))).setCell ⟨bx, 3, none⟩ (i64 k.tk.lo)).setCell ⟨bx, 4, none⟩ (i64 k.tk.hi) = wz at hk5 Hx ⊢
      replace HP := Lib.hid (HP.out.keep hk5 (fun h => Hn.out.1 h.symm) (fun h => Hn.out.2.1 h.symm) (fun h => Hn.out.2.2.1 h.symm))
      replace HS := Lib.hid (HS.out.aside hk5 (fun i hi e => Hn.out.2.2.2.1 i hi e.symm) (fun q h => h ▸ Hn.out.2.2.2.2))
      replace HA := Lib.hid HP.out.obj.pu
      refine hK.out _ _ HA.out (fun _ => ?_)
      (try simp only [Act.put, List.setIfInBounds_toArray, List.set_cons_zero, List.set_cons_succ])
      clear hK K hk5
      refine seqT_done ?_
      go_wp2_with fail
      go_meet
      exact ⟨bx, rfl, Hx, Lib.hid Hn.out.2.2.2.1, HP, HS⟩
  case rest =>
    obtain ⟨bx, rfl, Hx, Hn, HP, HS⟩ := hcut
    clear c0 c1 c2 c3 c4 c5 c6 c7 c8 c9 c10
    go_wp2_with fail
    refine wp_region_seqS ((fun w' => AtPu w' b b1 b2 k ∧ w'.cell? ⟨bx, 0, none⟩ = some (i64 1) ∧ w'.cell? ⟨bx, 1, none⟩ = some (i64 k.e) ∧ w'.cell? ⟨bx, 2, none⟩ = some (i64 (k.cl.wg + 1)) ∧ w'.cell? ⟨bx, 3, none⟩ = some (i64 k.tk.lo) ∧ w'.cell? ⟨bx, 4, none⟩ = some (i64 k.tk.hi))) ((0, true) :: (1, true) :: (2, true) :: (3, true) :: (4, true) :: (5, true) :: (6, true) :: (7, true) :: (8, true) :: (9, true) :: (10, true) :: (11, true) :: (12, true) :: (15, true) :: (13, false) :: (14, false) :: (16, false) :: (17, false) :: []) (by kernel_rfl) (by kernel_rfl) (by kernel_rfl) (by decide) (fun _ _ _ _ _ h => h) (⟨HP.out.obj.drew.pu, Hx.out.drew.at' 0 _ rfl, Hx.out.drew.at' 1 _ rfl, Hx.out.drew.at' 2 _ rfl, Hx.out.drew.at' 3 _ rfl, Hx.out.drew.at' 4 _ rfl⟩) ?_
    replace HP := Lib.hid HP.out.drew
    replace HS := Lib.hid HS.out.drew
    replace Hx := Lib.hid Hx.out.drew
    repeat (first | (refine seq_take (v := ?_) rfl ?_ ?_ ?_; rotate_left 1; rfl; (focus (intro wS hSw; obtain ⟨⟨c0, c1, c2, c3, c4, c5, c6, c7, c8, c9, c10⟩, d0, d1, d2, d3, d4⟩ := hSw; go_simp; first | done | with_reducible rfl)); (try simp only [Act.put, List.setIfInBounds_toArray, List.set_cons_zero, List.set_cons_succ])) | (refine seq_skip rfl ?_ ?_; rfl; (try simp only [Act.put, List.setIfInBounds_toArray, List.set_cons_zero, List.set_cons_succ])))
    refine seq_run rfl (fun K hK => ?_)
    go_simp
    go_at_call 29
    refine (clslot_any _ b1 _ HP.out.cl).mono ?_
    rintro r w' ⟨rfl, rfl⟩
    (try go_wp2_with fail)
    refine hK.out _ _ (⟨HP.out.obj.pu, Hx.out.at' 0 _ rfl, Hx.out.at' 1 _ rfl, Hx.out.at' 2 _ rfl, Hx.out.at' 3 _ rfl, Hx.out.at' 4 _ rfl⟩) (fun _ => ?_)
    (try simp only [Act.put, List.setIfInBounds_toArray, List.set_cons_zero, List.set_cons_succ])
    clear hK K
    repeat (first | (refine seq_take (v := ?_) rfl ?_ ?_ ?_; rotate_left 1; rfl; (focus (intro wS hSw; obtain ⟨⟨c0, c1, c2, c3, c4, c5, c6, c7, c8, c9, c10⟩, d0, d1, d2, d3, d4⟩ := hSw; go_simp; first | done | with_reducible rfl)); (try simp only [Act.put, List.setIfInBounds_toArray, List.set_cons_zero, List.set_cons_succ])) | (refine seq_skip rfl ?_ ?_; rfl; (try simp only [Act.put, List.setIfInBounds_toArray, List.set_cons_zero, List.set_cons_succ])))
    refine seq_run rfl (fun K hK => ?_)
    go_simp
    go_at_call 32
    refine (pword_at _ _ _ _ _ j _ HJ.out).mono ?_
    rintro r w1 ⟨rfl, hb1⟩
    (try go_wp2_with fail)
    replace HP := Lib.hid (HP.out.later hb1)
    replace HS := Lib.hid (HS.out.later hb1)
    replace Hx := Lib.hid (Hx.out.later hb1)
    clear hb1
    refine hK.out _ _ (⟨HP.out.obj.pu, Hx.out.at' 0 _ rfl, Hx.out.at' 1 _ rfl, Hx.out.at' 2 _ rfl, Hx.out.at' 3 _ rfl, Hx.out.at' 4 _ rfl⟩) (fun _ => ?_)
    (try simp only [Act.put, List.setIfInBounds_toArray, List.set_cons_zero, List.set_cons_succ])
    clear hK K
    repeat (first | (refine seq_take (v := ?_) rfl ?_ ?_ ?_; rotate_left 1; rfl; (focus (intro wS hSw; obtain ⟨⟨c0, c1, c2, c3, c4, c5, c6, c7, c8, c9, c10⟩, d0, d1, d2, d3, d4⟩ := hSw; go_simp; first | done | with_reducible rfl)); (try simp only [Act.put, List.setIfInBounds_toArray, List.set_cons_zero, List.set_cons_succ])) | (refine seq_skip rfl ?_ ?_; rfl; (try simp only [Act.put, List.setIfInBounds_toArray, List.set_cons_zero, List.set_cons_succ])))
    refine seq_run rfl (fun K hK => ?_)
    go_simp
    go_at_call 33
    refine (pack_at 1 k.e (k.cl.wg + 1) k.tk.lo k.tk.hi k.pack _ (by omega) rfl).mono ?_
    rintro r w2 ⟨rfl, hb2⟩
    (try go_wp2_with fail)
    replace HP := Lib.hid (HP.out.later hb2)
    replace HS := Lib.hid (HS.out.later hb2)
    replace Hx := Lib.hid (Hx.out.later hb2)
    clear hb2
    refine hK.out _ _ (⟨HP.out.obj.pu, Hx.out.at' 0 _ rfl, Hx.out.at' 1 _ rfl, Hx.out.at' 2 _ rfl, Hx.out.at' 3 _ rfl, Hx.out.at' 4 _ rfl⟩) (fun _ => ?_)
    (try simp only [Act.put, List.setIfInBounds_toArray, List.set_cons_zero, List.set_cons_succ])
    clear hK K
    repeat (first | (refine seq_take (v := ?_) rfl ?_ ?_ ?_; rotate_left 1; rfl; (focus (intro wS hSw; obtain ⟨⟨c0, c1, c2, c3, c4, c5, c6, c7, c8, c9, c10⟩, d0, d1, d2, d3, d4⟩ := hSw; go_simp; first | done | with_reducible rfl)); (try simp only [Act.put, List.setIfInBounds_toArray, List.set_cons_zero, List.set_cons_succ])) | (refine seq_skip rfl ?_ ?_; rfl; (try simp only [Act.put, List.setIfInBounds_toArray, List.set_cons_zero, List.set_cons_succ])))
    refine seq_run rfl (fun K hK => ?_)
    go_simp
    go_at_call 22
    refine (store_in base _ p c _ _ _ k.who j x k.pack HS.out.mem HX.out HS.out.size hL Hpk.out.1 Hpk.out.2).mono ?_
    rintro r w3 ⟨rfl, v3, hT3⟩
    (try go_wp2_with fail)
    have hlt := HP.out.lt
    replace HP := Lib.hid (HP.out.keep hT3.keep (HS.out.apart b (.inl rfl)) (HS.out.apart b1 (.inr (.inl rfl))) (HS.out.apart b2 (.inr (.inr rfl))))
    replace Hx := Lib.hid (Hx.out.keep hT3.keep (fun h => Hn.out _ h rfl))
    replace HS := Lib.hid (HS.out.cells hlt hT3)
    clear hT3 hlt
    refine hK.out _ _ (⟨HP.out.obj.pu, Hx.out.at' 0 _ rfl, Hx.out.at' 1 _ rfl, Hx.out.at' 2 _ rfl, Hx.out.at' 3 _ rfl, Hx.out.at' 4 _ rfl⟩) (fun _ => ?_)
    (try simp only [Act.put, List.setIfInBounds_toArray, List.set_cons_zero, List.set_cons_succ])
    clear hK K
    refine seq_done ?_
    obtain ⟨c0, c1, c2, c3, c4, c5, c6, c7, c8, c9, c10⟩ := HP.out.obj.pu
    have f10 := HP.out.obj.fz 10
    go_wp2
    go_ret
    have hk := (Keep.refl (· = b) w3).own 10 (.int .i64 1)
    refine ⟨rfl, _, HS.out.own (hk.mono (fun i hi => .inl hi)), HP.out.obj.set 10 (.int .i64 1), HP.out.cl.keep hk (fun h => HP.out.n1 h.symm), HP.out.tk.keep hk (fun h => HP.out.n2 h.symm), HP.out.n1, HP.out.n2, HP.out.n3⟩
end

end Go.Proofs.Ytoogdfjlodchhaa
