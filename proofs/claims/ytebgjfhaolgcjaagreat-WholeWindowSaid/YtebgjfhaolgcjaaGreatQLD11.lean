/- Contracts and plain lemmas that these laws need. No condition. -/

import Derived.Test.YtebgjfhaolgcjaaGreatQLD1
import Derived.Test.YtebgjfhaolgcjaaGreatQLD3
import Derived.Test.YtebgjfhaolgcjaaGreatQLD8
import Derived.Test.YtebgjfhaolgcjaaGreatQLD9
import Derived.Test.YtebgjfhaolgcjaaGreatQLD10
namespace Go.Proofs.YtebgjfhaolgcjaaGreat
set_option linter.unusedVariables false
set_option maxHeartbeats 8000000
set_option maxRecDepth 100000
section
open Go.RowKit
def hadBy (v : Int) (d : Dd) : Prop := d.kd = 1 ∧ d.ok = true ∧ d.v = v
instance (v : Int) (d : Dd) : Decidable (hadBy v d) := inferInstanceAs (Decidable (_ ∧ _))
theorem YTr.callN {B : YB} {N m : Nat} {Yg : Nat → Yd} {Y : Yd} (h : YTr B N Yg m) (hY : Yg m = Y) {k : Nat} (take : Bool) {kd e x s : Int} (hk : kdI take = kd) (he : e = 0 ∨ e = 1) (x0 : 0 ≤ x) (x1 : x ≤ 18446744073709551615) (hq : Y.ts[k]? = some none) (hm : m + 1 < 1000000) :
  YTr B N (fun i => if i ≤ m then Yg i else Y.call k kd e x s (wkB B N k take e x s)) (m + 1) := by
 have hA := h.all m (Nat.le_refl _)
 have hf := h.fit m (Nat.le_refl _)
 rw [hY] at hA hf
 have hw : YHow B N Y (Y.call k kd e x s (wkB B N k take e x s)) := .call k take kd e x s hq he hk
 refine h.snoc (by rw [hY]; exact hw) (by
  rw [hY]
  exact hw.mv_of (fun w take' kd' e' x' s' he => by
   have e1 := congrArg Yd.ds he
   have e2 : (Y.ds ++ [(⟨(k : Int), kd, e, x, s, Y.moves, -1, false, 0, 0, 0⟩ : Dd)]) = Y.ds ++ [⟨(w : Int), kd', e', x', s', Y.moves, -1, false, 0, 0, 0⟩] := e1
   have e3 := List.append_cancel_left e2
   simp only [List.cons.injEq, Dd.mk.injEq, and_true] at e3
   rw [← e3.2.2.2.1]
   exact ⟨x0, x1⟩) h.cf h.hT hA.len hA.ok) hf hm
structure TkIs (l : List Dd) (v : Int) (r : Int) : Prop where
 is : (r = -1 ∧ ∀ d ∈ l, ¬ hadBy v d) ∨ ∃ (i : Nat) (d : Dd), r = i ∧ l[i]? = some d ∧ hadBy v d
def DOwn (l : List Dd) : Prop := ∀ (i i' : Nat) (d d' : Dd), l[i]? = some d → l[i']? = some d' → d.kd = 0 → d'.kd = 0 → d.x = d'.x → i = i'
section
variable {B : YB} {N m : Nat} {Y : Nat → Yd}
theorem zC9 (h : YTr B N Y m) {i : Nat} {d : Dd} (hd : (Y m).ds[i]? = some d) (ho : d.ok = true) : 0 ≤ d.till := by
 have hA := (h.all m (Nat.le_refl _)).ok
 obtain ⟨⟨w, _, _, g3⟩, _, _, g6⟩ := hA.deed i d hd
 by_cases e : d.till = -1
 ·obtain ⟨T, hT⟩ := g3 e
  obtain ⟨_, _, _, _, d', k5, _, _, k8, _⟩ := hA.task w T i hT
  rw [hd] at k5
  cases k5
  rw [k8] at ho
  cases ho
 ·have h1 := (g6 e).1
  have h2 := (hA.deed i d hd).2.1
  omega
theorem zHO (h : YTr B N Y m) (hN : N < 1048576) (hx : DOwn (Y m).ds) {g io ip : Nat} {dg do' dp : Dd} (hg : (Y m).ds[g]? = some dg) (gk : dg.kd = 1) (go : dg.ok = true) (ge : dg.e = 0 ∨ dg.e = 1) (ho : (Y m).ds[io]? = some do') (ok : do'.kd = 0) (ov : do'.x = dg.v) (hp : (Y m).ds[ip]? = some dp) (pk : dp.kd = 0) (po : dp.ok = true) (hb : dBef dp dg) {r : Int} (hr : TkIs (Y m).ds dp.x r)
  (hk : (r < 0 ∧ ∀ (k : Nat) (dk : Dd), (Y m).ds[k]? = some dk → dk.kd = 1 → 0 ≤ dk.till) ∨ ∃ (k : Nat) (dk : Dd), r = k ∧ (Y m).ds[k]? = some dk ∧ dBef dg dk) : ¬ dNear dg.e dp do' := by
 obtain ⟨I, hI, hin, hu⟩ := zD0 h
 obtain ⟨a, ha, t, htk, rfl⟩ := zB9 h hI hin hg gk go (zC9 h hg go)
 obtain ⟨d, j, pa⟩ := hI a ha
 obtain ⟨dg2, tk⟩ := pa.yes t htk
 have q := tk.deed
 rw [hg] at q
 cases q
 have tout := tk.out
 have tt := zC9 h hg go
 rcases tout with q | ⟨_, q2, q3⟩
 ·omega
 have ea : a.i = io := hx a.i io d do' pa.deed ho pa.kd ok (by rw [ov, q3])
 have pd := pa.deed
 rw [ea, ho] at pd
 cases pd
 obtain ⟨b, hbI, hbi⟩ := hin ip dp hp pk po
 obtain ⟨d2, j2, pb⟩ := hI b hbI
 have pd := pb.deed
 rw [hbi, hp] at pd
 cases pd
 have c1 := tk.cs
 have c2 := tk.sm
 refine zFK h hN pa pb htk tk ge hb (fun u hu2 => ?_)
 obtain ⟨du, tu⟩ := pb.yes u hu2
 have u1 := tu.cs
 have u2 := tu.sm
 rcases hk with ⟨r0, hrest⟩ | ⟨k, dk, rfl, hdk, hbf⟩
 ·exfalso
  rcases tu.out with q | ⟨p1, p2, p3⟩
  ·have := hrest u.1 du tu.deed tu.kd
   omega
  ·rcases hr.is with ⟨_, q⟩ | ⟨i', d', rfl, _⟩
   ·exact q du (List.mem_of_getElem? tu.deed) ⟨tu.kd, p1, p3⟩
   ·omega
 ·have hkh : hadBy dp.x dk := by
   rcases hr.is with ⟨q, _⟩ | ⟨i', d', q, h6, h7⟩
   ·omega
   ·obtain rfl : i' = k := by omega
    rw [hdk] at h6
    cases h6
    exact h7
  obtain ⟨b', hb', v, hv, hv1⟩ := zB9 h hI hin hdk hkh.1 hkh.2.1 (zC9 h hdk hkh.2.1)
  obtain ⟨d3, j3, pb'⟩ := hI b' hb'
  obtain ⟨dv, tv⟩ := pb'.yes v hv
  have q := tv.deed
  rw [hv1, hdk] at q
  cases q
  have tk0 := zC9 h hdk hkh.2.1
  rcases tv.out with q | ⟨_, _, q5⟩
  ·omega
  have e1 := hx b'.i b.i d3 dp pb'.deed pb.deed pb'.kd pb.kd (by rw [← q5, hkh.2.2])
  have e2 := hu b' hb' b hbI e1
  subst e2
  rw [hu2] at hv
  cases hv
  have f1 := tv.fr
  have f2 := hbf.2
  have m1 := h.moves (show t.2.1 ≤ t.2.2 by omega) (by omega)
  have : t.2.1 < u.2.1 := mv_lt h (by omega) (by omega)
  omega
end
end
section
open Go.RowKit
def WSame (N : Nat) (C C' : List Int) : Prop := ∀ j, j < N → C'.getD j 0 = C.getD j 0
theorem WSame.refl (N : Nat) (C : List Int) : WSame N C C := fun _ _ => rfl
theorem WSame.set {N i : Nat} (C : List Int) (x : Int) (h : N ≤ i) : WSame N C (C.set i x) := fun j hj => zAH x (by omega)
section
variable {k : Sn} {C C' : List Int} {N st r P B : Nat} {last : Int}
theorem QInv.same (h : QInv k C N st r P B last) (e : WSame N C C') : QInv k C' N st r P B last :=
 have hN : 0 < N := by have := h.at'.r1; omega
 ⟨h.at', h.ph, fun hl q hq => (h.a hl q hq).trans (e _ (Nat.mod_lt _ hN)).symm, fun hP hl => ⟨fun j hj => ((h.b hP hl).1 j hj).trans (e j hj).symm, (h.b hP hl).2⟩, h.c1, h.c2, h.c3, h.l⟩
theorem QInv.sure (h : QInv k C N st r P B last) (hr : r + 1 = N) (hP : 1 ≤ P) (hl : last < (P : Int) - 1) : (k.step C).ph = 1 := by
 obtain ⟨m1, m3, m4, m6, m7⟩ := h.at'.last (C := C) h.ph hr
 obtain ⟨b1, b2⟩ := h.b hP hl
 rw [m7, if_pos]
 refine ⟨hP, ?_⟩
 rw [b2, b1 _ h.at'.slot_lt]
 simp
end
def GLeft (N : Nat) (k : Ge) (C : List Int) (m : Nat) : Prop :=
 (k.ta = none ∧ ∃ (st r P B : Nat) (last : Int), QInv k.sn C N st r P B last ∧ (3 * N + 10 ≤ m + r ∨ (last ≠ (P : Int) ∧ (P = 0 ∨ last = (P : Int) - 1) ∧ 2 * N + 5 ≤ m + r) ∨ (1 ≤ P ∧ last < (P : Int) - 1 ∧ N + 5 ≤ m + r))) ∨
 (∃ a, k.ta = some a ∧ ((a.lost = false ∧ (a.next ≤ 3 → C.getD a.slot.toNat 0 = a.word) ∧ (5 : Int) ≤ m + a.next) ∨ (2 * N + 10 : Int) ≤ m + a.next))
section
variable {k : Ge} {C C' : List Int} {N hz m m' : Nat} {z : Int}
theorem GLeft.more (h : GLeft N k C m) (hm : m ≤ m') : GLeft N k C m' := by
 rcases h with ⟨h1, st, r, P, B, last, h2, h3⟩ | ⟨a, h1, h2⟩
 ·refine .inl ⟨h1, st, r, P, B, last, h2, ?_⟩
  rcases h3 with h3 | ⟨h3, h4, h5⟩ | ⟨h3, h4, h5⟩
  ·exact .inl (by omega)
  ·exact .inr (.inl ⟨h3, h4, by omega⟩)
  ·exact .inr (.inr ⟨h3, h4, by omega⟩)
 ·refine .inr ⟨a, h1, ?_⟩
  rcases h2 with ⟨h2, h3, h4⟩ | h2
  ·exact .inl ⟨h2, h3, by omega⟩
  ·exact .inr (by omega)
theorem GLeft.same (h : GLeft N k C m) (hk : k.Ok N hz C) (hp : k.ph = 0) (e : WSame N C C') : GLeft N k C' m := by
 rcases h with ⟨h1, st, r, P, B, last, h2, h3⟩ | ⟨a, h1, h2⟩
 ·exact .inl ⟨h1, st, r, P, B, last, h2.same e, h3⟩
 ·refine .inr ⟨a, h1, ?_⟩
  rcases h2 with ⟨h2, h3, h4⟩ | h2
  ·have ho := (hk.ta hp a h1).1
   have h0 := ho.s0
   have h9 := ho.s1
   exact .inl ⟨h2, fun h => (e _ (by omega)).trans (h3 h), h4⟩
  ·exact .inr h2
theorem GLeft.turn (h : GLeft N k C m) (C' : List Int) (hk : k.Ok N hz C) (hp : k.ph = 0) : GLeft N k C' (4 * N + 10) := by
 rcases h with ⟨h1, st, r, P, B, last, h2, h3⟩ | ⟨a, h1, h2⟩
 ·exact .inl ⟨h1, st, r, P, _, _, h2.store C', .inl (by omega)⟩
 ·obtain ⟨ho, ha⟩ := hk.ta hp a h1
  have := ho.st ha
  exact .inr ⟨a, h1, .inr (by omega)⟩
theorem GLeft.start {t s so d who e start : Int} (hl : Lay t s N) : GLeft N (ge0 t s so d who e start N) C (4 * N + 10) := by
 have hn1 := hl.n1
 have ht1 := hl.t1
 have hn2 := hl.n2
 obtain ⟨m1, m2, m5, m3, m4⟩ := zAx start N (by omega) (by omega)
 obtain ⟨st, hst⟩ : ∃ st : Nat, IntKind.u64.wrap start % N = (st : Int) := ⟨_, (Int.toNat_of_nonneg m3).symm⟩
 refine .inl ⟨rfl, st, 0, 0, 0, -1, ?_, .inl (by omega)⟩
 show QInv (sn0 t s so d who (IntKind.u64.wrap start % N) N) C N st 0 0 0 (-1)
 rw [hst]
 exact QInv.start t s so d who C N st 0 (by omega)
theorem GLeft.step (h : GLeft N k C m) (hk : k.Ok N hz C) (hp : k.ph = 0) (ha : k.ask C z) : 1 ≤ m ∧ ((k.step N hz C z).ph ≠ 0 ∨ GLeft N (k.step N hz C z) (k.cells N hz C) (m - 1)) := by
 have hn1 := hk.lay.n1
 have ht1 := hk.lay.t1
 have hn2 := hk.lay.n2
 have hzz := hk.hzz
 have w0 := hk.w0
 have w1 := hk.w1
 have hlen := hk.len
 have hnp : ¬ k.ph ≠ 0 := by omega
 rcases h with ⟨hta, st, r, P, B, last, hq, h3⟩ | ⟨a, hta, h2⟩
 ·have e1 : k.step N hz C z = k.read (k.sn.step C) z := by unfold Ge.step; rw [if_neg hnp, hta]
  have e2 : k.cells N hz C = C := by unfold Ge.cells; rw [if_neg hnp, hta]
  have hr1 := hq.at'.r1
  have hl := hq.l
  rw [e2]
  refine ⟨by omega, ?_⟩
  rcases (by omega : r + 1 < N ∨ r + 1 = N) with hr | hr
  ·have hm := hq.mid hr
   have e3 : k.step N hz C z = { k with sn := k.sn.step C } := by
    rw [e1]
    unfold Ge.read
    rw [if_pos (by rw [hm.ph]; decide)]
   rw [e3]
   refine .inr (.inl ⟨hta, st, r + 1, P, B, last, hm, ?_⟩)
   rcases h3 with h3 | ⟨h3, h4, h5⟩ | ⟨h3, h4, h5⟩
   ·exact .inl (by omega)
   ·exact .inr (.inl ⟨h3, h4, by omega⟩)
   ·exact .inr (.inr ⟨h3, h4, by omega⟩)
  ·rcases hq.last hr with hm | hm
   ·have e3 : k.step N hz C z = { k with sn := k.sn.step C } := by
     rw [e1]
     unfold Ge.read
     rw [if_pos (by rw [hm.ph]; decide)]
    rw [e3]
    refine .inr (.inl ⟨hta, st, 0, P + 1, B, last, hm, ?_⟩)
    rcases h3 with h3 | ⟨h3, h4, h5⟩ | ⟨h3, h4, h5⟩
    ·by_cases hlp : last = (P : Int)
     ·exact .inr (.inl ⟨by omega, .inr (by omega), by omega⟩)
     ·exact .inr (.inr ⟨by omega, by omega, by omega⟩)
    ·exact .inr (.inr ⟨by omega, by omega, by omega⟩)
    ·have := hq.sure hr h3 h4
     rw [hm.ph] at this
     exact absurd this (by decide)
   ·have hd := hm.ph
    by_cases hz0 : z < 0
    ·have e3 : k.step N hz C z = { k with sn := k.sn.step C, ph := 2 } := by
      rw [e1]
      unfold Ge.read
      rw [if_neg (fun h => h hd), if_pos hz0]
     rw [e3]
     exact .inl (by show (2 : Int) ≠ 0; decide)
    ·have e3 : k.step N hz C z = { k with sn := k.sn.step C, ta := some (ta0 k.t k.s k.so k.d k.who z ((k.sn.step C).X.getD z.toNat 0)) } := by
      rw [e1]
      unfold Ge.read
      rw [if_neg (fun h => h hd), if_neg hz0]
     have hE := ha hp hta hd
     have hzN : z.toNat < N := by
      rcases hE with ⟨hz1, _⟩ | ⟨j, rfl, hj, _⟩
      ·omega
      ·have := hm.at'.X
       rw [Int.toNat_natCast]
       omega
     rw [e3]
     refine .inr (.inr ⟨_, rfl, ?_⟩)
     show (false = false ∧ ((0 : Int) ≤ 3 → C.getD z.toNat 0 = (k.sn.step C).X.getD z.toNat 0) ∧ (5 : Int) ≤ (m - 1 : Nat) + 0) ∨ (2 * N + 10 : Int) ≤ (m - 1 : Nat) + 0
     rcases h3 with h3 | ⟨h3, h4, h5⟩ | ⟨h3, h4, h5⟩
     ·exact .inr (by omega)
     ·exact .inl ⟨rfl, fun _ => (hm.x (by omega) _ hzN).symm, by omega⟩
     ·exact .inl ⟨rfl, fun _ => (hm.x (by omega) _ hzN).symm, by omega⟩
 ·obtain ⟨ho, ap⟩ := hk.ta hp a hta
  have s0 := ho.s0
  have s1 := ho.s1
  have e1 : k.step N hz C z = k.grab N (a.go a.slot.toNat (N + a.slot.toNat) C) := by unfold Ge.step; rw [if_neg hnp, hta]
  have e2 : k.cells N hz C = a.cells a.slot.toNat hz C := by unfold Ge.cells; rw [if_neg hnp, hta]
  have on : ∀ a' : Ta, a.go a.slot.toNat (N + a.slot.toNat) C = a' → a'.ph = 0 → k.step N hz C z = { k with ta := some a' } := fun a' g hp' => by
   rw [e1, g]
   unfold Ge.grab
   rw [if_neg (by omega), if_neg (by omega)]
  rcases ho.st ap with ⟨hn, hl⟩ | ⟨hn, hl⟩ | ⟨hn, hl⟩ | ⟨hn, hl⟩ | hn
  ·obtain ⟨g1, g2, g3⟩ := go_0 (j := a.slot.toNat) (jv := N + a.slot.toNat) (hz := hz) (C := C) ap hn
   rw [on _ g1 ap, e2, g2]
   refine ⟨by omega, .inr (.inr ⟨_, rfl, ?_⟩)⟩
   rcases h2 with ⟨h2, h3, h4⟩ | h2
   ·exact .inl ⟨hl, fun _ => by show (C.set hz _).getD a.slot.toNat 0 = a.word; exact (zAH _ (by omega)).trans (h3 (by omega)), by show (5 : Int) ≤ (m - 1 : Nat) + 1; omega⟩
   ·exact .inr (by show (2 * N + 10 : Int) ≤ (m - 1 : Nat) + 1; omega)
  ·by_cases hw : C.getD a.slot.toNat 0 = a.word
   ·obtain ⟨g1, g2, g3⟩ := go_1y (jv := N + a.slot.toNat) (hz := hz) ap hn hw
    rw [on _ g1 ap, e2, g2]
    refine ⟨by omega, .inr (.inr ⟨_, rfl, ?_⟩)⟩
    rcases h2 with ⟨h2, h3, h4⟩ | h2
    ·exact .inl ⟨hl, fun _ => hw, by show (5 : Int) ≤ (m - 1 : Nat) + 2; omega⟩
    ·exact .inr (by show (2 * N + 10 : Int) ≤ (m - 1 : Nat) + 2; omega)
   ·obtain ⟨g1, g2, g3⟩ := go_1n (jv := N + a.slot.toNat) (hz := hz) ap hn hw
    rw [on _ g1 ap, e2, g2]
    rcases h2 with ⟨h2, h3, h4⟩ | h2
    ·exact absurd (h3 (by omega)) hw
    ·exact ⟨by omega, .inr (.inr ⟨_, rfl, .inr (by show (2 * N + 10 : Int) ≤ (m - 1 : Nat) + 4; omega)⟩)⟩
  ·obtain ⟨g1, g2, g3⟩ := go_2 (j := a.slot.toNat) (jv := N + a.slot.toNat) (hz := hz) (C := C) ap hn
   rw [on _ g1 ap, e2, g2]
   refine ⟨by omega, .inr (.inr ⟨_, rfl, ?_⟩)⟩
   rcases h2 with ⟨h2, h3, h4⟩ | h2
   ·exact .inl ⟨hl, fun _ => h3 (by omega), by show (5 : Int) ≤ (m - 1 : Nat) + 3; omega⟩
   ·exact .inr (by show (2 * N + 10 : Int) ≤ (m - 1 : Nat) + 3; omega)
  ·by_cases hw : C.getD a.slot.toNat 0 = a.word
   ·obtain ⟨g1, g2, g3⟩ := go_3y (jv := N + a.slot.toNat) (hz := hz) ap hn hw
    rw [on _ g1 ap, e2, g2]
    refine ⟨by omega, .inr (.inr ⟨_, rfl, ?_⟩)⟩
    rcases h2 with ⟨h2, h3, h4⟩ | h2
    ·exact .inl ⟨hl, fun h => absurd h (by show ¬ (4 : Int) ≤ 3; decide), by show (5 : Int) ≤ (m - 1 : Nat) + 4; omega⟩
    ·exact .inr (by show (2 * N + 10 : Int) ≤ (m - 1 : Nat) + 4; omega)
   ·obtain ⟨g1, g2, g3⟩ := go_3n (jv := N + a.slot.toNat) (hz := hz) ap hn hw
    rw [on _ g1 ap, e2, g2]
    rcases h2 with ⟨h2, h3, h4⟩ | h2
    ·exact absurd (h3 (by omega)) hw
    ·exact ⟨by omega, .inr (.inr ⟨_, rfl, .inr (by show (2 * N + 10 : Int) ≤ (m - 1 : Nat) + 4; omega)⟩)⟩
  ·by_cases hl : a.lost = true
   ·obtain ⟨g1, g2, g3⟩ := go_4n (j := a.slot.toNat) (jv := N + a.slot.toNat) (hz := hz) (C := C) ap hn hl
    have e3 : k.step N hz C z = { k with tries := k.tries + 1, sn := sn0 k.t k.s k.so k.d k.who (IntKind.u64.wrap k.start % N) N, ta := none } := by
     rw [e1, g1]
     unfold Ge.grab
     rw [if_neg (by show ¬ (2 : Int) = 1; decide), if_pos rfl]
    rw [e3, e2, g2]
    rcases h2 with ⟨h2, _⟩ | h2
    ·rw [hl] at h2
     cases h2
    ·obtain ⟨m1, m2, m5, m3, m4⟩ := zAx k.start N (by omega) (by omega)
     obtain ⟨st, hst⟩ : ∃ st : Nat, IntKind.u64.wrap k.start % N = (st : Int) := ⟨_, (Int.toNat_of_nonneg m3).symm⟩
     refine ⟨by omega, .inr (.inl ⟨rfl, st, 0, 0, 0, -1, ?_, .inr (.inl ⟨by decide, .inl rfl, by omega⟩)⟩)⟩
     show QInv (sn0 k.t k.s k.so k.d k.who (IntKind.u64.wrap k.start % N) N) _ N st 0 0 0 (-1)
     rw [hst]
     exact QInv.start _ _ _ _ _ _ N st 0 (by omega)
   ·have hl' : a.lost = false := by simpa using hl
    obtain ⟨g1, g2, g3⟩ := go_4y (j := a.slot.toNat) (jv := N + a.slot.toNat) (hz := hz) (C := C) ap hn hl'
    have e3 : k.step N hz C z = { k with ta := some { a with next := 5, ph := 1 }, ph := 1 } := by
     rw [e1, g1]
     unfold Ge.grab
     rw [if_pos rfl]
    rw [e3]
    exact ⟨by rcases h2 with ⟨_, _, h4⟩ | h2 <;> omega, .inl (by show (1 : Int) ≠ 0; decide)⟩
end
theorem zF7 {nb N : Nat} {k : Tk} {C : List Int} {now : Int} (h : N ≤ nb) : WSame N C (stp nb k C now).2.1 := by
 have h0 : ∀ x, WSame N C (C.set nb x) := fun x => WSame.set C x h
 have h1 : ∀ x, WSame N C (C.set (nb + k.who.toNat) x) := fun x => WSame.set C x (by omega)
 have h2 : WSame N C C := WSame.refl N C
 unfold stp
 repeat' split
 all_goals first | exact h0 _ | exact h1 _ | exact h2
def WTurn (N : Nat) (T T' : Wk) (E : List Ev) : Prop :=
 (∃ e, E = [e] ∧ 0 ≤ e.cell ∧ e.cell < N ∧ (e.op = 1 ∨ (e.op = 2 ∧ e.ok = true))) ∧ (T'.ph = 1 ∨ ∃ k a, T' = .ge k ∧ k.ph = 0 ∧ k.ta = some a ∧ a.next = 4 ∧ a.lost = false)
def Wk.last (T : Wk) : Prop := ∃ k a, T = .ge k ∧ k.ph = 0 ∧ k.ta = some a ∧ a.next = 4 ∧ a.lost = false
theorem Wk.words {T : Wk} {P : Pl} {C : List Int} {now z : Int} (h : T.Ok P C) (hp : T.ph = 0) : WSame P.N C (T.cells P C now) ∨ WTurn P.N T (T.step P C now z) (T.ev P C now) := by
 cases T with
 | pu k =>
  have h1 : k.Ok P.N P.m P.nb P.h0 C := h
  have hp0 : k.ph = 0 := hp
  have hnp : ¬ k.ph ≠ 0 := by omega
  have s0 := h1.cl.s0; have s1 := h1.cl.s1; have m0 := h1.cl.m0; have m1 := h1.cl.m1; have nt := h1.tk.nt; have t1 := h1.cl.lay.t1; have ct := h1.ct; have tt := h1.tt
  show WSame P.N C (k.cells P.N P.nb C now) ∨ WTurn P.N (.pu k) (.pu (k.step P.m P.nb P.h0 C now)) (k.ev P.N P.nb P.h0 C now)
  rcases h1.at' hp0 with ⟨a, _, _⟩ | ⟨a, _, _⟩ | ⟨a, _, _⟩ | ⟨a, _, _⟩
  ·refine .inl ?_
   unfold Pu.cells
   rw [if_neg hnp, if_pos a]
   exact WSame.refl _ _
  ·refine .inl ?_
   unfold Pu.cells
   rw [if_neg hnp, if_neg (by omega), if_pos a]
   exact zF7 (by omega)
  ·refine .inl ?_
   unfold Pu.cells
   rw [if_neg hnp, if_neg (by omega), if_neg (by omega), if_pos a]
   exact WSame.set _ _ (by omega)
  ·refine .inr ⟨?_, .inl ?_⟩
   ·unfold Pu.ev
    rw [if_neg hnp, if_neg (by omega), if_neg (by omega), if_neg (by omega)]
    exact ⟨_, rfl, by show (0 : Int) ≤ (k.cl.slot.toNat : Nat); omega, by show ((k.cl.slot.toNat : Nat) : Int) < P.N; omega, .inl rfl⟩
   ·show (k.step P.m P.nb P.h0 C now).ph = 1
    unfold Pu.step
    rw [if_neg hnp, if_neg (by omega), if_neg (by omega), if_neg (by omega)]
 | ge k =>
  have h1 : k.Ok P.N P.hw C := h.1
  have hp0 : k.ph = 0 := hp
  have hnp : ¬ k.ph ≠ 0 := by omega
  have hzz := h1.hzz
  have w0 := h1.w0
  show WSame P.N C (k.cells P.N P.hw C) ∨ WTurn P.N (.ge k) (.ge (k.step P.N P.hw C z)) (k.ev P.N P.hw C)
  cases hta : k.ta with
  | none =>
   refine .inl ?_
   have e2 : k.cells P.N P.hw C = C := by unfold Ge.cells; rw [if_neg hnp, hta]
   rw [e2]
   exact WSame.refl _ _
  | some a =>
   obtain ⟨ho, ap⟩ := h1.ta hp0 a hta
   have s0 := ho.s0
   have s1 := ho.s1
   have e1 : k.step P.N P.hw C z = k.grab P.N (a.go a.slot.toNat (P.N + a.slot.toNat) C) := by unfold Ge.step; rw [if_neg hnp, hta]
   have e2 : k.cells P.N P.hw C = a.cells a.slot.toNat P.hw C := by unfold Ge.cells; rw [if_neg hnp, hta]
   have e3 : k.ev P.N P.hw C = a.ev a.slot.toNat (P.N + a.slot.toNat) P.hw C := by unfold Ge.ev; rw [if_neg hnp, hta]
   rw [e2]
   rcases ho.st ap with ⟨hn, hl⟩ | ⟨hn, hl⟩ | ⟨hn, hl⟩ | ⟨hn, hl⟩ | hn
   ·rw [(go_0 (j := a.slot.toNat) (jv := P.N + a.slot.toNat) (hz := P.hw) (C := C) ap hn).2.1]
    exact .inl (WSame.set _ _ (by omega))
   ·by_cases hw : C.getD a.slot.toNat 0 = a.word
    ·rw [(go_1y (jv := P.N + a.slot.toNat) (hz := P.hw) ap hn hw).2.1]
     exact .inl (WSame.refl _ _)
    ·rw [(go_1n (jv := P.N + a.slot.toNat) (hz := P.hw) ap hn hw).2.1]
     exact .inl (WSame.refl _ _)
   ·rw [(go_2 (j := a.slot.toNat) (jv := P.N + a.slot.toNat) (hz := P.hw) (C := C) ap hn).2.1]
    exact .inl (WSame.refl _ _)
   ·by_cases hw : C.getD a.slot.toNat 0 = a.word
    ·obtain ⟨g1, g2, g3⟩ := go_3y (jv := P.N + a.slot.toNat) (hz := P.hw) ap hn hw
     refine .inr ⟨⟨_, e3.trans g3, by show (0 : Int) ≤ (a.slot.toNat : Nat); omega, by show ((a.slot.toNat : Nat) : Int) < P.N; omega, .inr ⟨rfl, rfl⟩⟩, .inr ⟨{ k with ta := some { a with next := 4 } }, { a with next := 4 }, ?_, hp0, rfl, rfl, hl⟩⟩
     rw [e1, g1]
     unfold Ge.grab
     rw [if_neg (by show ¬ a.ph = 1; omega), if_neg (by show ¬ a.ph = 2; omega)]
    ·rw [(go_3n (jv := P.N + a.slot.toNat) (hz := P.hw) ap hn hw).2.1]
     exact .inl (WSame.refl _ _)
   ·by_cases hl : a.lost = true
    ·rw [(go_4n (j := a.slot.toNat) (jv := P.N + a.slot.toNat) (hz := P.hw) (C := C) ap hn hl).2.1]
     exact .inl (WSame.set _ _ (by omega))
    ·rw [(go_4y (j := a.slot.toNat) (jv := P.N + a.slot.toNat) (hz := P.hw) (C := C) ap hn (by simpa using hl)).2.1]
     exact .inl (WSame.set _ _ (by omega))
theorem Wk.last_over {T : Wk} {P : Pl} {C : List Int} {now z : Int} (h : T.Ok P C) (hl : T.last) : (T.step P C now z).ph = 1 := by
 obtain ⟨k, a, rfl, hp, hta, hn, hf⟩ := hl
 have h1 : k.Ok P.N P.hw C := h.1
 obtain ⟨ho, ap⟩ := h1.ta hp a hta
 show (k.step P.N P.hw C z).ph = 1
 have e1 : k.step P.N P.hw C z = k.grab P.N (a.go a.slot.toNat (P.N + a.slot.toNat) C) := by unfold Ge.step; rw [if_neg (by omega), hta]
 rw [e1, (go_4y (j := a.slot.toNat) (jv := P.N + a.slot.toNat) (hz := 0) (C := C) ap hn hf).1]
 unfold Ge.grab
 rw [if_pos rfl]
def WLeft (P : Pl) (T : Wk) (C : List Int) (m : Nat) : Prop := match T with
 | .pu k => k.rem P.m ≤ m
 | .ge k => GLeft P.N k C m
def Wk.most (T : Wk) (P : Pl) (put : Nat) : Nat := match T with
 | .pu _ => put
 | .ge _ => 4 * P.N + 10
section
variable {T : Wk} {P : Pl} {C C' : List Int} {now z : Int} {m m' : Nat}
theorem WLeft.more (h : WLeft P T C m) (hm : m ≤ m') : WLeft P T C m' := by
 cases T with
 | pu k =>
  have h' : k.rem P.m ≤ m := h
  show k.rem P.m ≤ m'
  omega
 | ge k => exact GLeft.more h hm
theorem WLeft.same (h : WLeft P T C m) (hk : T.Ok P C) (hp : T.ph = 0) (e : WSame P.N C C') : WLeft P T C' m := by
 cases T with
 | pu k => exact h
 | ge k => exact GLeft.same h hk.1 hp e
theorem WLeft.step (h : WLeft P T C m) (hk : T.Ok P C) (hp : T.ph = 0) (ha : T.ask C z) (n0 : 0 ≤ now) (hf : ∀ j, 0 ≤ C.getD j 0) : 1 ≤ m ∧ ((T.step P C now z).ph ≠ 0 ∨ WLeft P (T.step P C now z) (T.cells P C now) (m - 1)) := by
 cases T with
 | pu k =>
  have hk' : k.Ok P.N P.m P.nb P.h0 C := hk
  have h' : k.rem P.m ≤ m := h
  have h1 := (hk'.next_ (now := now) n0 hf).2 hp
  have h2 := Pu.rem_pos hk' hp
  refine ⟨by omega, .inr ?_⟩
  show (k.step P.m P.nb P.h0 C now).rem P.m ≤ (m - 1 : Nat)
  omega
 | ge k => exact GLeft.step h hk.1 hp ha
end
end
section
open Go.RowKit
def Wk.lim (T : Wk) (N put tn : Nat) : Nat := match T with
 | .pu _ => put
 | .ge _ => (tn + 1) * (4 * N + 10)
theorem Wk.lim_step (T : Wk) (P : Pl) (C : List Int) (now z : Int) (N put tn : Nat) : (T.step P C now z).lim N put tn = T.lim N put tn := by
 cases T <;> rfl
theorem Wk.lim_mono (T : Wk) {N put tn tn' : Nat} (h : tn ≤ tn') : T.lim N put tn ≤ T.lim N put tn' := by
 cases T with
 | pu k => exact Nat.le_refl _
 | ge k => exact Nat.mul_le_mul_right _ (by omega)
def OLeft (P : Pl) (T : Wk) (C : List Int) (put own tn : Nat) : Prop := ∃ m, WLeft P T C m ∧ m ≤ T.lim P.N put 0 ∧ own + m ≤ T.lim P.N put tn
section
variable {P : Pl} {T : Wk} {C C' : List Int} {put own tn tn' : Nat} {now z : Int}
theorem OLeft.le (h : OLeft P T C put own tn) : own ≤ T.lim P.N put tn := by
 obtain ⟨m, _, _, h3⟩ := h
 omega
theorem OLeft.new (h : WLeft P T C (T.lim P.N put 0)) : OLeft P T C put 0 0 := ⟨_, h, Nat.le_refl _, by omega⟩
theorem OLeft.again (h : OLeft P T C put own tn) : OLeft P T C put 0 0 := by
 obtain ⟨m, h1, h2, _⟩ := h
 exact ⟨m, h1, h2, by omega⟩
theorem OLeft.more (h : OLeft P T C put own tn) (ht : tn ≤ tn') : OLeft P T C put own tn' := by
 obtain ⟨m, h1, h2, h3⟩ := h
 exact ⟨m, h1, h2, Nat.le_trans h3 (T.lim_mono ht)⟩
theorem OLeft.same (h : OLeft P T C put own tn) (hk : T.Ok P C) (hp : T.ph = 0) (e : WSame P.N C C') : OLeft P T C' put own tn := by
 obtain ⟨m, h1, h2, h3⟩ := h
 exact ⟨m, h1.same hk hp e, h2, h3⟩
theorem OLeft.turn (h : OLeft P T C put own tn) (C' : List Int) (hk : T.Ok P C) (hp : T.ph = 0) : OLeft P T C' put own (tn + 1) := by
 obtain ⟨m, h1, h2, h3⟩ := h
 cases T with
 | pu k => exact ⟨m, h1, h2, h3⟩
 | ge k =>
  have h3' : own + m ≤ (tn + 1) * (4 * P.N + 10) := h3
  refine ⟨4 * P.N + 10, GLeft.turn h1 C' hk.1 hp, ?_, ?_⟩
  ·show 4 * P.N + 10 ≤ (0 + 1) * (4 * P.N + 10)
   omega
  ·show own + (4 * P.N + 10) ≤ (tn + 1 + 1) * (4 * P.N + 10)
   rw [Nat.add_mul (tn + 1) 1, Nat.one_mul]
   omega
theorem OLeft.step (h : OLeft P T C put own tn) (hk : T.Ok P C) (hp : T.ph = 0) (ha : T.ask C z) (n0 : 0 ≤ now) (hf : ∀ j, 0 ≤ C.getD j 0) : own + 1 ≤ T.lim P.N put tn ∧ ((T.step P C now z).ph ≠ 0 ∨ OLeft P (T.step P C now z) (T.cells P C now) put (own + 1) tn) := by
 obtain ⟨m, h1, h2, h3⟩ := h
 obtain ⟨g1, g2⟩ := h1.step hk hp ha n0 hf (now := now)
 refine ⟨by omega, g2.imp id (fun g => ⟨m - 1, g, ?_, ?_⟩)⟩
 ·rw [T.lim_step]
  omega
 ·rw [T.lim_step]
  omega
end
def tot (f : Nat → Nat) : Nat → Nat
 | 0 => 0
 | n + 1 => tot f n + f n
def updN (f : Nat → Nat) (k v : Nat) : Nat → Nat := fun j => if j = k then v else f j
theorem zA5 (f : Nat → Nat) (k v : Nat) : updN f k v k = v := if_pos rfl
theorem zAV {f : Nat → Nat} {k v j : Nat} (h : j ≠ k) : updN f k v j = f j := if_neg h
def othN (f : Nat → Nat) (w d : Nat) : Nat → Nat := fun k => if k = w then f w else f k + d
theorem zCC (f : Nat → Nat) (w d : Nat) : othN f w d w = f w := if_pos rfl
theorem zBk {f : Nat → Nat} {w d k : Nat} (h : k ≠ w) : othN f w d k = f k + d := if_neg h
theorem zEW (f : Nat → Nat) (k : Nat) : ∀ n, tot (updN f k (f k + 1)) n = tot f n + if k < n then 1 else 0
 | 0 => rfl
 | n + 1 => by
  have ih := zEW f k n
  rw [tot, tot, ih]
  by_cases e : n = k
  ·subst e
   rw [zA5, if_neg (Nat.lt_irrefl _), if_pos (Nat.lt_succ_self _)]
   omega
  ·rw [zAV e]
   by_cases h : k < n
   ·rw [if_pos h, if_pos (by omega)]
    omega
   ·rw [if_neg h, if_neg (by omega)]
    omega
theorem zGJ {f : Nat → Nat} {b : Nat} : ∀ {n : Nat}, (∀ k, k < n → f k ≤ b) → tot f n ≤ n * b
 | 0, _ => by simp [tot]
 | n + 1, h => by
  have ih := zGJ (n := n) (fun k hk => h k (by omega))
  have := h n (by omega)
  rw [tot, Nat.add_mul, Nat.one_mul]
  omega
theorem zBa {f : Nat → Nat} {n : Nat} (h : ∀ k, f k = 0) : tot f n = 0 := by
 induction n with
 | zero => rfl
 | succ n ih => rw [tot, ih, h n]
theorem zFk {f : Nat → Nat} {k : Nat} : ∀ {n : Nat}, k < n → f k ≤ tot f n
 | 0, h => absurd h (Nat.not_lt_zero _)
 | n + 1, h => by
  rw [tot]
  by_cases e : k = n
  ·subst e
   omega
  ·have := zFk (f := f) (n := n) (k := k) (by omega)
   omega
theorem zGn {f : Nat → Nat} {k : Nat} (h1 : ∀ j, f j ≤ 1) : ∀ {n : Nat}, k < n → tot f n - f k + 1 ≤ n
 | 0, h => absurd h (Nat.not_lt_zero _)
 | n + 1, h => by
  have hn := h1 n
  rw [tot]
  by_cases e : k = n
  ·subst e
   have := zGJ (f := f) (b := 1) (n := k) (fun j _ => h1 j)
   omega
  ·have ih := zGn h1 (n := n) (k := k) (by omega)
   have hg := zFk (f := f) (n := n) (k := k) (by omega)
   omega
section
variable {pl : Nat → Pl} {t n N put : Nat} {Y : Yd} {own tn : Nat → Nat}
def Books (pl : Nat → Pl) (put : Nat) (Y : Yd) (own tn : Nat → Nat) : Prop := ∀ (k : Nat) (T : Wk) (i : Nat), Y.ts[k]? = some (some (T, i)) → OLeft (pl k) T Y.C put (own k) (tn k)
theorem Books.none (h : ∀ (k : Nat) (a : Wk × Nat), Y.ts[k]? ≠ some (some a)) : Books pl put Y own tn := fun k T i hk => absurd hk (h k _)
theorem Books.call (h : Books pl put Y own tn) {w : Nat} {kd e x s : Int} {T : Wk} (hw : Y.ts[w]? = some .none) (hT : OLeft (pl w) T Y.C put 0 0) : Books pl put (Y.call w kd e x s T) (updN own w 0) (updN tn w 0) := fun k T' i hk => by
 have hk' : (Y.ts.set w (some (T, Y.ds.length)))[k]? = some (some (T', i)) := hk
 rw [List.getElem?_set] at hk'
 split at hk'
 ·rename_i e1
  subst e1
  rw [zA5, zA5]
  split at hk'
  ·cases hk'
   exact hT
  ·cases hk'
 ·rename_i e1
  rw [zAV (fun e2 => e1 e2.symm), zAV (fun e2 => e1 e2.symm)]
  exact h k T' i hk'
theorem zB8 {P : Pl} {w : Nat} {T : Wk} {i : Nat} {z : Int} {k : Nat} {T' : Wk} {i' : Nat} (h : (Y.step P w T i z).ts[k]? = some (some (T', i'))) : (k = w ∧ T' = T.step P Y.C Y.now z ∧ (T.step P Y.C Y.now z).ph = 0) ∨ (k ≠ w ∧ Y.ts[k]? = some (some (T', i'))) := by
 have h' : (if (T.step P Y.C Y.now z).ph = 0 then Y.ts.set w (some (T.step P Y.C Y.now z, i)) else Y.ts.set w Option.none)[k]? = some (some (T', i')) := h
 split at h'
 ·rename_i hp
  rw [List.getElem?_set] at h'
  split at h'
  ·rename_i e1
   split at h'
   ·cases h'
    exact .inl ⟨e1.symm, rfl, hp⟩
   ·cases h'
  ·rename_i e1
   exact .inr ⟨fun e2 => e1 e2.symm, h'⟩
 ·rw [List.getElem?_set] at h'
  split at h'
  ·split at h'
   ·cases h'
   ·cases h'
  ·rename_i e1
   exact .inr ⟨fun e2 => e1 e2.symm, h'⟩
theorem Books.step (h : Books pl put Y own tn) (ho : YOk pl t n Y) (hN : ∀ k, (pl k).N = N) {w : Nat} {T : Wk} {i : Nat} {z : Int} (hw : Y.ts[w]? = some (some (T, i))) (ha : T.ask Y.C z) (hf : ∀ j, 0 ≤ Y.C.getD j 0) {dl : Nat} (hd : WSame N Y.C (T.cells (pl w) Y.C Y.now) ∨ 1 ≤ dl) :
  own w + 1 ≤ T.lim N put (tn w) ∧ Books pl put (Y.step (pl w) w T i z) (updN own w (own w + 1)) (othN tn w dl) := by
 obtain ⟨k1, k2, k3, k4, _⟩ := ho.task w T i hw
 obtain ⟨g1, g2⟩ := (h w T i hw).step k1 k4 ha ho.now0 hf (now := Y.now)
 rw [hN w] at g1
 refine ⟨g1, fun k T' i' hk => ?_⟩
 rcases zB8 hk with ⟨rfl, rfl, hp⟩ | ⟨hne, hk⟩
 ·rw [zA5, zCC]
  exact g2.resolve_left (fun hh => hh hp)
 ·rw [zAV hne, zBk hne]
  obtain ⟨q1, q2, q3, q4, _⟩ := ho.task k T' i' hk
  have hb := h k T' i' hk
  rcases hd with hd | hd
  ·exact (hb.same q1 q4 (by rw [hN k]; exact hd)).more (by omega)
  ·exact (hb.turn _ q1 q4).more (by omega)
theorem Books.pass (h : Books pl put Y own tn) (m : Int) : Books pl put (Y.pass m) own tn := h
structure Stretch (pl : Nat → Pl) (t put : Nat) (Y : Yd) (s tu : Nat → Nat) : Prop where
 books : Books pl put Y s (fun k => tot tu t - tu k)
 one : ∀ k, tu k ≤ 1
 last : ∀ (k : Nat) (T : Wk) (i : Nat), Y.ts[k]? = some (some (T, i)) → tu k = 1 → T.last
 idle : ∀ k, (∀ a, Y.ts[k]? ≠ some (some a)) → s k = 0 ∧ tu k = 0
theorem Stretch.none (h : ∀ (k : Nat) (a : Wk × Nat), Y.ts[k]? ≠ some (some a)) : Stretch pl t put Y (fun _ => 0) (fun _ => 0) :=
 ⟨Books.none h, fun _ => Nat.zero_le _, fun k T i hk => absurd hk (h k _), fun _ _ => ⟨rfl, rfl⟩⟩
theorem Stretch.short (h : Stretch pl t put Y (own) tn) (ho : YOk pl t n Y) (hN : ∀ k, (pl k).N = N) (ht : 1 ≤ t) {b : Nat} (h1 : put ≤ b) (h2 : t * (4 * N + 10) ≤ b) : tot own t ≤ t * b := by
 refine zGJ (fun k hk => ?_)
 have hlt : k < Y.ts.length := by rw [ho.len]; exact hk
 cases hq : Y.ts[k]? with
 | none =>
  have := List.getElem?_eq_none_iff.1 hq
  omega
 | some a =>
  cases a with
  | none =>
   rw [(h.idle k (fun a ha => by rw [hq] at ha; cases ha)).1]
   exact Nat.zero_le _
  | some a =>
   have hb := (h.books k a.1 a.2 hq).le
   refine Nat.le_trans hb ?_
   rw [hN k]
   have h3 := zGn (f := tn) h.one hk
   cases ha : a.1 with
   | pu q => exact h1
   | ge q =>
    show (tot tn t - tn k + 1) * (4 * N + 10) ≤ b
    exact Nat.le_trans (Nat.mul_le_mul_right _ h3) h2
theorem Stretch.call (h : Stretch pl t put Y own tn) {w : Nat} {kd e x s : Int} {T : Wk} (hw : Y.ts[w]? = some .none) (hT : OLeft (pl w) T Y.C put 0 0) : Stretch pl t put (Y.call w kd e x s T) own tn := by
 obtain ⟨i1, i2⟩ := h.idle w (fun a ha => by rw [hw] at ha; cases ha)
 have hset : ∀ k, (Y.call w kd e x s T).ts[k]? = if w = k then (if w < Y.ts.length then some (some (T, Y.ds.length)) else .none) else Y.ts[k]? := fun k => by
  show (Y.ts.set w (some (T, Y.ds.length)))[k]? = _
  rw [List.getElem?_set]
 refine ⟨fun k T' i hk => ?_, h.one, fun k T' i hk hu => ?_, fun k hk => ?_⟩
 ·rw [hset] at hk
  split at hk
  ·rename_i e1
   subst e1
   split at hk
   ·cases hk
    rw [i1]
    exact hT.more (Nat.zero_le _)
   ·cases hk
  ·exact h.books k T' i hk
 ·rw [hset] at hk
  split at hk
  ·rename_i e1
   subst e1
   omega
  ·exact h.last k T' i hk hu
 ·by_cases e1 : w = k
  ·subst e1
   exact ⟨i1, i2⟩
  ·exact h.idle k (fun a ha => hk a (by rw [hset, if_neg e1]; exact ha))
theorem Stretch.step (h : Stretch pl t put Y own tn) (ho : YOk pl t n Y) (hN : ∀ k, (pl k).N = N) {w : Nat} {T : Wk} {i : Nat} {z : Int} (hw : Y.ts[w]? = some (some (T, i))) (ha : T.ask Y.C z) (hf : ∀ j, 0 ≤ Y.C.getD j 0) (hp : (T.step (pl w) Y.C Y.now z).ph = 0) :
  ∃ tn', Stretch pl t put (Y.step (pl w) w T i z) (updN own w (own w + 1)) tn' ∧ tot (updN own w (own w + 1)) t = tot own t + 1 := by
 have hwt : w < t := by rw [← ho.len]; exact (List.getElem?_eq_some_iff.1 hw).1
 obtain ⟨k1, k2, k3, k4, _⟩ := ho.task w T i hw
 have hu0 : tn w = 0 := by
  have := h.one w
  by_cases e : tn w = 1
  ·have h1 := Wk.last_over (P := pl w) (C := Y.C) (now := Y.now) (z := z) k1 (h.last w T i hw e)
   omega
  ·omega
 have htot : tot (updN own w (own w + 1)) t = tot own t + 1 := by rw [zEW, if_pos hwt]
 have hidle : ∀ k, (∀ a, (Y.step (pl w) w T i z).ts[k]? ≠ some (some a)) → k ≠ w ∧ ∀ a, Y.ts[k]? ≠ some (some a) := fun k hk => by
  have e1 : (Y.step (pl w) w T i z).ts = Y.ts.set w (some (T.step (pl w) Y.C Y.now z, i)) := if_pos hp
  have hne : k ≠ w := fun e => by
   subst e
   refine hk (T.step (pl k) Y.C Y.now z, i) ?_
   rw [e1, List.getElem?_set_self (List.getElem?_eq_some_iff.1 hw).1]
  refine ⟨hne, fun a ha => hk a ?_⟩
  rw [e1, List.getElem?_set_ne (fun e => hne e.symm)]
  exact ha
 rcases Wk.words (now := Y.now) (z := z) k1 k4 with hs | ⟨_, hl⟩
 ·rw [hN w] at hs
  obtain ⟨g1, g2⟩ := h.books.step ho hN hw ha hf (dl := 0) (.inl hs)
  refine ⟨tn, ⟨fun k T' i' hk => ?_, h.one, fun k T' i' hk hu => ?_, fun k hk => ?_⟩, htot⟩
  ·have h9 := g2 k T' i' hk
   by_cases e : k = w
   ·subst e
    rw [zCC] at h9
    exact h9
   ·rw [zBk e] at h9
    exact h9
  ·rcases zB8 hk with ⟨rfl, _⟩ | ⟨hne, hk⟩
   ·omega
   ·exact h.last k T' i' hk hu
  ·obtain ⟨hne, hk'⟩ := hidle k hk
   rw [zAV hne]
   exact h.idle k hk'
 ·have hlast : (T.step (pl w) Y.C Y.now z).last := by
   rcases hl with hl | hl
   ·omega
   ·exact hl
  obtain ⟨g1, g2⟩ := h.books.step ho hN hw ha hf (dl := 1) (.inr (Nat.le_refl _))
  have htu : tot (updN tn w 1) t = tot tn t + 1 := by
   have := zEW tn w t
   rw [hu0, if_pos hwt] at this
   exact this
  refine ⟨updN tn w 1, ⟨fun k T' i' hk => ?_, fun k => ?_, fun k T' i' hk hu => ?_, fun k hk => ?_⟩, htot⟩
  ·have h9 := g2 k T' i' hk
   show OLeft (pl k) T' (Y.step (pl w) w T i z).C put _ (tot (updN tn w 1) t - updN tn w 1 k)
   by_cases e : k = w
   ·subst e
    rw [zCC, hu0] at h9
    show OLeft _ _ _ put (updN own k (own k + 1) k) (tot (updN tn k 1) t - updN tn k 1 k)
    rw [zA5 tn, htu]
    exact h9.more (by omega)
   ·rw [zBk e] at h9
    rw [htu, zAV (f := tn) e]
    have hkt : k < t := by
     rcases zB8 hk with ⟨e2, _⟩ | ⟨_, hk2⟩
     ·exact absurd e2 e
     ·rw [← ho.len]
      exact (List.getElem?_eq_some_iff.1 hk2).1
    have hg := zFk (f := tn) hkt
    have hle : (tot tn t - tn k) + 1 ≤ tot tn t + 1 - tn k := by omega
    exact OLeft.more h9 hle
  ·by_cases e : k = w
   ·subst e
    rw [zA5]
    exact Nat.le_refl _
   ·rw [zAV e]
    exact h.one k
  ·rcases zB8 hk with ⟨rfl, rfl, _⟩ | ⟨hne, hk⟩
   ·exact hlast
   ·rw [zAV hne] at hu
    exact h.last k T' i' hk hu
  ·obtain ⟨hne, hk'⟩ := hidle k hk
   rw [zAV hne, zAV hne]
   exact h.idle k hk'
theorem Stretch.ended (h : Stretch pl t put Y own tn) (ho : YOk pl t n Y) (hN : ∀ k, (pl k).N = N) {w : Nat} {T : Wk} {i : Nat} {z : Int} (hw : Y.ts[w]? = some (some (T, i))) (ha : T.ask Y.C z) (hf : ∀ j, 0 ≤ Y.C.getD j 0) :
  Stretch pl t put (Y.step (pl w) w T i z) (fun _ => 0) (fun _ => 0) := by
 obtain ⟨g1, g2⟩ := h.books.step ho hN hw ha hf (dl := 1) (.inr (Nat.le_refl _))
 exact ⟨fun k T' i' hk => (g2 k T' i' hk).again.more (Nat.zero_le _), fun _ => Nat.zero_le _, fun k T' i' _ hu => absurd hu (by decide), fun _ _ => ⟨rfl, rfl⟩⟩
end
theorem OLeft.begun {t s so d who e x start m : Int} {N nb h0 hw put : Nat} {C : List Int} (take : Bool) (hl : Lay t s N) (hput : s * (t + 1) + most t so d + 2 = (put : Int)) : OLeft ⟨N, m, nb, h0, hw⟩ (wk0 t s so d who take e x start m N) C put 0 0 := by
 refine OLeft.new ?_
 cases take with
 | true =>
  show GLeft N (ge0 t s so d who e start N) C ((0 + 1) * (4 * N + 10))
  rw [Nat.zero_add, Nat.one_mul]
  exact GLeft.start hl
 | false =>
  show (pu0 t s so d who e x m).rem m ≤ (put : Int)
  rw [zFq]
  omega
end
section
open Go.RowKit
def busyN (Y : Yd) : Nat := Y.ts.countP Option.isSome
def FinM (pl : Nat → Pl) (t put b : Nat) (Y : Yd) (μ : Nat) : Prop := ∃ s tu, Stretch pl t put Y s tu ∧ busyN Y * (t * b + 1) + (t * b - tot s t) ≤ μ
section
variable {pl : Nat → Pl} {t n N put b μ : Nat} {Y : Yd}
theorem FinM.of (h : Books pl put Y (fun _ => 0) (fun _ => 0)) : FinM pl t put b Y (busyN Y * (t * b + 1) + t * b) := by
 refine ⟨fun _ => 0, fun _ => 0, ⟨fun k T i hk => ?_, fun _ => Nat.zero_le _, fun k T i _ hu => absurd hu (by decide), fun _ _ => ⟨rfl, rfl⟩⟩, ?_⟩
 ·have h1 := h k T i hk
  have e : tot (fun _ => 0) t - 0 = 0 := by rw [zBa (fun _ => rfl)]
  show OLeft (pl k) T Y.C put 0 (tot (fun _ => 0) t - 0)
  rw [e]
  exact h1
 ·rw [zBa (fun _ => rfl)]
  omega
theorem zIK (ho : YOk pl t n Y) : busyN Y ≤ t := by
 have := List.countP_le_length (p := Option.isSome) (l := Y.ts)
 rw [ho.len] at this
 exact this
theorem zGE {w : Nat} {a a' : Wk × Nat} (hw : Y.ts[w]? = some (some a)) : (Y.ts.set w (some a')).countP Option.isSome = busyN Y := by
 obtain ⟨hl, he⟩ := List.getElem?_eq_some_iff.1 hw
 have hpos : 0 < Y.ts.countP Option.isSome := List.countP_pos_iff.2 ⟨_, List.getElem_mem hl, by rw [he]; rfl⟩
 rw [List.countP_set hl, he]
 show Y.ts.countP Option.isSome - 1 + 1 = Y.ts.countP Option.isSome
 omega
theorem zHZ {w : Nat} {a : Wk × Nat} (hw : Y.ts[w]? = some (some a)) : (Y.ts.set w none).countP Option.isSome + 1 = busyN Y := by
 obtain ⟨hl, he⟩ := List.getElem?_eq_some_iff.1 hw
 have hpos : 0 < Y.ts.countP Option.isSome := List.countP_pos_iff.2 ⟨_, List.getElem_mem hl, by rw [he]; rfl⟩
 rw [List.countP_set hl, he]
 show Y.ts.countP Option.isSome - 1 + 0 + 1 = Y.ts.countP Option.isSome
 omega
theorem FinM.step (h : FinM pl t put b Y μ) (ho : YOk pl t n Y) (hN : ∀ k, (pl k).N = N) (ht : 1 ≤ t) (h1 : put ≤ b) (h2 : t * (4 * N + 10) ≤ b) {w : Nat} {T : Wk} {i : Nat} {z : Int} (hw : Y.ts[w]? = some (some (T, i))) (ha : T.ask Y.C z) (hf : ∀ j, 0 ≤ Y.C.getD j 0)
  {n' : Nat} (ho' : YOk pl t n' (Y.step (pl w) w T i z)) : ∃ μ', μ' < μ ∧ FinM pl t put b (Y.step (pl w) w T i z) μ' := by
 obtain ⟨s, tu, hS, hμ⟩ := h
 have hs := hS.short ho hN ht h1 h2
 by_cases hp : (T.step (pl w) Y.C Y.now z).ph = 0
 ·obtain ⟨tu', hS', htot⟩ := hS.step ho hN hw ha hf hp
  have hs' := hS'.short ho' hN ht h1 h2
  refine ⟨busyN Y * (t * b + 1) + (t * b - tot s t) - 1, by omega, _, tu', hS', ?_⟩
  have e : busyN (Y.step (pl w) w T i z) = busyN Y := by
   show (if (T.step (pl w) Y.C Y.now z).ph = 0 then Y.ts.set w (some (T.step (pl w) Y.C Y.now z, i)) else Y.ts.set w none).countP Option.isSome = _
   rw [if_pos hp]
   exact zGE hw
  rw [e, htot]
  rw [htot] at hs'
  omega
 ·have e : busyN (Y.step (pl w) w T i z) + 1 = busyN Y := by
   show (if (T.step (pl w) Y.C Y.now z).ph = 0 then Y.ts.set w (some (T.step (pl w) Y.C Y.now z, i)) else Y.ts.set w none).countP Option.isSome + 1 = _
   rw [if_neg hp]
   exact zHZ hw
  refine ⟨busyN Y * (t * b + 1) + (t * b - tot s t) - 1, ?_, _, _, hS.ended ho hN hw ha hf, ?_⟩
  ·rw [← e, Nat.add_mul, Nat.one_mul] at hμ ⊢
   omega
  ·rw [← e, Nat.add_mul, Nat.one_mul, zBa (fun _ => rfl)]
   omega
end
inductive Tick (B : YB) (N : Nat) (Y0 : Yd) : Nat → Yd → Nat → Prop
 | zero : Tick B N Y0 0 Y0 0
 | skip {j : Nat} {Y : Yd} {s : Nat} (h : Tick B N Y0 j Y s) (hn : Y.ts[j % B.T]? = some none) : Tick B N Y0 (j + 1) Y s
 | step {j : Nat} {Y : Yd} {s : Nat} (h : Tick B N Y0 j Y s) (T : Wk) (i : Nat) (z : Int) (hk : Y.ts[j % B.T]? = some (some (T, i))) (ha : T.ask Y.C z) : Tick B N Y0 (j + 1) (Y.step (plOf B N (j % B.T)) (j % B.T) T i z) (s + 1)
section
variable {B B' : YB} {N : Nat} {Y0 Y Y' : Yd} {j s s' : Nat}
theorem Tick.like (h : Tick B N Y0 j Y s) (hB : B.like B') : Tick B' N Y0 j Y s := by
 obtain ⟨yb, tb, p, c, t, st, so, d, T⟩ := B
 obtain ⟨yb', tb', p', c', t', st', so', d', T'⟩ := B'
 obtain ⟨h1, h2, h3, h4, h5⟩ := hB
 simp only at h1 h2 h3 h4 h5
 subst h1 h2 h3 h4 h5
 induction h with
 | zero => exact .zero
 | skip h hn ih => exact .skip ih hn
 | step h T i z hk ha ih => exact .step ih T i z hk ha
theorem Tick.moves (h : Tick B N Y0 j Y s) : Y.moves = Y0.moves + s := by
 induction h with
 | zero => rfl
 | skip h hn ih => exact ih
 | step h T i z hk ha ih =>
  show _ + 1 = _
  rw [ih]
  omega
end
end
section
open Go.RowKit
structure FnL (W w : World) (l : List Thing) (B : YB) (N : Nat) (Yf : Nat → Yd) (n : Nat) (Q b μ0 : Nat) (Y : Yd) (J : Nat → Nat) (j s : Nat) (Yg : Nat → Yd) (l0 : List Thing) (J0 : Nat → Nat) : Prop where
 yd : YdL W w l B N Y J (n + s)
 tr : YTr B N Yg (n + s)
 at' : Yg (n + s) = Y
 same : ∀ i, i ≤ n → Yg i = Yf i
 tick : Tick B N (Yf n) j Y s
 fin : ∃ μ, s + μ ≤ μ0 ∧ FinM (plOf B N) B.T Q b Y μ
 go : YGo (Yf n) Y l0 l J0 J
section
variable {W w w' : World} {l l' l0 : List Thing} {B : YB} {N n Q b μ0 j s : Nat} {Yf Yg : Nat → Yd} {Y : Yd} {J J' J0 : Nat → Nat}
theorem FnL.later (h : FnL W w l B N Yf n Q b μ0 Y J j s Yg l0 J0) (e : Below w.heap.size w w') : FnL W w' l B N Yf n Q b μ0 Y J j s Yg l0 J0 := ⟨h.yd.later e, h.tr, h.at', h.same, h.tick, h.fin, h.go⟩
theorem FnL.start (h : YdL W w l B N (Yf n) J n) (ht : YTr B N Yf n) (hf : FinM (plOf B N) B.T Q b (Yf n) μ0) : FnL W w l B N Yf n Q b μ0 (Yf n) J 0 0 Yf l J :=
 ⟨h, ht, rfl, fun _ _ => rfl, .zero, ⟨μ0, by omega, hf⟩, YGo.refl _ _ _⟩
theorem FnL.few (h : FnL W w l B N Yf n Q b μ0 Y J j s Yg l0 J0) : s ≤ μ0 := by obtain ⟨μ, h1, _⟩ := h.fin; omega
theorem FnL.skip (h : FnL W w l B N Yf n Q b μ0 Y J j s Yg l0 J0) {i r : Nat} (hj : j = r * B.T + i) (hi : i < B.T) (hn : Y.ts[i]? = some none) : FnL W w l B N Yf n Q b μ0 Y J (j + 1) s Yg l0 J0 :=
 ⟨h.yd, h.tr, h.at', h.same, .skip h.tick (by rw [hj, Nat.mul_comm r B.T, Nat.mul_add_mod, Nat.mod_eq_of_lt hi]; exact hn), h.fin, h.go⟩
theorem FnL.step (h : FnL W w l B N Yf n Q b μ0 Y J j s Yg l0 J0) {i r : Nat} (hj : j = r * B.T + i) (hi : i < B.T) (h1 : Q ≤ b) (h2 : B.T * (4 * N + 10) ≤ b) (hn : n + μ0 < 1000000) {T : Wk} {q : Nat} {z : Int} (hk : Y.ts[i]? = some (some (T, q))) (ha : T.ask Y.C z) (hl : YH W w' l' B (Y.step (plOf B N i) i T q z) J') (hg : YGo Y (Y.step (plOf B N i) i T q z) l l' J J') :
  ∃ Yg', FnL W w' l' B N Yf n Q b μ0 (Y.step (plOf B N i) i T q z) J' (j + 1) (s + 1) Yg' l0 J0 := by
 obtain ⟨μ, hμ, hF⟩ := h.fin
 have hlt := h.yd.ok
 have hmv : YMv (plOf B N) Y (Y.step (plOf B N i) i T q z) := .step i T q z hk ha
 have hyd := h.yd.next (by omega) hmv hl
 obtain ⟨μ', hμ', hF'⟩ := hF.step hlt (fun _ => rfl) (by omega) h1 h2 hk ha (fun j => (h.yd.h.fit j).1) hyd.ok
 have hhow : YHow B N (Yg (n + s)) (Y.step (plOf B N i) i T q z) := by rw [h.at']; exact .step i T q z hk ha
 have htr := h.tr.snoc hhow (by rw [h.at']; exact hmv) hyd.h.fit (by omega)
 refine ⟨fun k => if k ≤ n + s then Yg k else Y.step (plOf B N i) i T q z, hyd, htr, if_neg (by omega), fun k hk => ?_, ?_, ⟨μ', by omega, hF'⟩, h.go.trans hg⟩
 ·show (if k ≤ n + s then Yg k else _) = _
  rw [if_pos (by omega)]
  exact h.same k hk
 ·have e : i = j % B.T := by rw [hj, Nat.mul_comm r B.T, Nat.mul_add_mod, Nat.mod_eq_of_lt hi]
  have := Tick.step h.tick T q z (by rw [← e]; exact hk) ha
  rw [← e] at this
  exact this
end
def FinPost (W w : World) (l : List Thing) (B : YB) (N : Nat) (Yf : Nat → Yd) (n Q b μ0 : Nat) (J : Nat → Nat) (r : Ending) (w' : World) : Prop :=
 ∃ (s j : Nat) (l' : List Thing) (Y' : Yd) (J' : Nat → Nat) (Yg : Nat → Yd), r = .returned (i64 s) ∧ FnL W w' l' B N Yf n Q b μ0 Y' J' j s Yg l J ∧ ∀ k, k < B.T → Y'.ts[k]? = some none
theorem zGT {Y : Yd} {P : Pl} {k : Nat} {T : Wk} {i : Nat} {z : Int} {j : Nat} (hj : j ≠ k) : (Y.step P k T i z).ts[j]? = Y.ts[j]? := by
 show (if _ then Y.ts.set k _ else Y.ts.set k _)[j]? = _
 split
 ·rw [List.getElem?_set_ne (fun e => hj e.symm)]
 ·rw [List.getElem?_set_ne (fun e => hj e.symm)]
theorem zIO (t s so d : Int) (w : World) : (Instr.field 24 (cf t s so d) 0).run Tryz.prog w = .ok (i64 t) w := by
 simp [Instr.field, go_sem, asAgg]
theorem zIN {W w : World} {l : List Thing} {B : YB} {N n Q b μ0 : Nat} {Yf : Nat → Yd} {J : Nat → Nat} (h : YdL W w l B N (Yf n) J n) (ht : YTr B N Yf n) (hf : FinM (plOf B N) B.T Q b (Yf n) μ0) (h1 : Q ≤ b) (h2 : B.T * (4 * N + 10) ≤ b) (hn : n + μ0 < 1000000) :
  Calls Tryz.prog 28 #[pt B.yb] w (FinPost W w l B N Yf n Q b μ0 J) := by
 have HF0 := zIc (FnL.start h ht hf)
 have HT := zIc h.hT
 have hT64 : B.T ≤ 64 := by have := h.cf.lay.t2; have := h.hT; omega
 clear h ht hf
 go_enter Tryz.func28, Tryz.ntmps28
 go_wp2_with fail
 go_loopw [3, 4] (fun sv bv wr => ∃ (r s : Nat) (bz : Bool) (lx : List Thing) (Y : Yd) (Jx : Nat → Nat) (Yg : Nat → Yd), sv = .int .i64 s ∧ bv = .bool bz ∧ Hid (FnL W wr lx B N Yf n Q b μ0 Y Jx (r * B.T) s Yg l J) ∧ Hid (bz = false → ∀ k, k < B.T → Y.ts[k]? = some none)) (fun sv bv _ => 2 * (μ0 - (RowKit.intOf sv).toNat) + (match bv with | .bool true => 1 | _ => 0))
 case atStart => exact ⟨0, 0, true, _, _, _, _, rfl, rfl, (by rw [Nat.zero_mul]; exact HF0), zIc (fun h => by cases h)⟩
 case round =>
  clear HF0
  obtain ⟨r, s, bz, lx, Y, Jx, Yg, rfl, rfl, HF, HZ⟩ := hrel
  cases bz with
  | false =>
   go_wp2_with fail
   go_ret
   exact ⟨s, _, lx, Y, Jx, Yg, rfl, HF.out, HZ.out trivial⟩
  | true =>
   obtain ⟨v, vd, X, hA⟩ := HF.out.yd.h
   have HA := zIc hA
   clear hA HZ
   go_wp2_with fail
   refine (zCQ HA.out).mono ?_
   rintro r2 w2 ⟨rfl, hb⟩
   have HF2 := zIc (HF.out.later hb)
   have HS0 : Hid (s ≤ s) := zIc (Nat.le_refl _)
   clear hb HA HF
   have hfl := zIO B.t B.s B.so B.d w2
   go_wp2_with fail
   clear hfl
   go_loopw [3, 4, 10] (fun sv bv iv wx => ∃ (s' i : Nat) (bz : Bool) (ly : List Thing) (Y : Yd) (Jy : Nat → Nat) (Yg : Nat → Yd), i ≤ B.T ∧ s ≤ s' ∧ sv = .int .i64 s' ∧ bv = .bool bz ∧ iv = .int .i64 i ∧ Hid (FnL W wx ly B N Yf n Q b μ0 Y Jy (r * B.T + i) s' Yg l J) ∧ Hid (bz = true → s < s') ∧ Hid (bz = false → ∀ k, k < i → Y.ts[k]? = some none)) (fun _ _ iv _ => B.T - (RowKit.intOf iv).toNat)
   case atStart => exact ⟨s, 0, false, _, _, _, _, Nat.zero_le _, Nat.le_refl _, rfl, rfl, rfl, HF2, zIc (fun h => by cases h), zIc (fun _ k hk => absurd hk (Nat.not_lt_zero _))⟩
   case round =>
    clear HF2
    obtain ⟨s', i, bz, ly, Y, Jy, Yg, hi, hs, rfl, rfl, rfl, HF, HU, HV⟩ := hrel
    rcases Nat.lt_or_ge i B.T with hlt | hge
    ·have hi' : (i : Int) < B.t := by have := HT.out; omega
     go_wp2_with fail
     refine (zDl HF.out.yd.cf HF.out.yd.h HF.out.yd.ok (by have := HF.out.few; omega) i).mono ?_
     rintro r2 w3 ⟨bs, l3, J3, Y3, rfl, hl3, hg3, h3⟩
     have HL := zIc hl3
     have HG := zIc hg3
     have H3 := zIc h3
     clear hl3 hg3 h3
     cases bs with
     | false =>
      have HI : Hid (Y.ts[i]? = some none) := zIc (by
       rcases H3.out with ⟨_, _, h5⟩ | ⟨h4, _⟩
       ·cases hq : Y.ts[i]? with
        | none =>
         rw [List.getElem?_eq_none_iff] at hq
         have := HF.out.yd.ok.len
         omega
        | some a =>
         cases a with
         | none => rfl
         | some a => exact absurd hq (h5 i rfl a)
       ·cases h4)
      have HF3 : Hid (FnL W w3 l3 B N Yf n Q b μ0 Y J3 (r * B.T + (i + 1)) s' Yg l J) := zIc (by
       rcases H3.out with ⟨_, h4, _⟩ | ⟨h4, _⟩
       ·have hL := HL.out
        have hG := HG.out
        rw [h4] at hL hG
        have h := HF.out.skip rfl hlt HI.out
        exact ⟨⟨hL, h.yd.ok, h.yd.len, h.yd.cf, h.yd.hT⟩, h.tr, h.at', h.same, h.tick, h.fin, h.go.trans hG⟩
       ·cases h4)
      clear HF HL HG H3
      cases bz with
      | true =>
       go_wp2_with fail
       go_roundw
       case rel => exact ⟨s', i + 1, true, l3, Y, J3, Yg, by have := HT.out; omega, hs, rfl, rfl, by go_num, HF3, zIc (fun _ => HU.out trivial), zIc (fun h => by cases h)⟩
       case measure => have := HT.out; first | omega | (simp [RowKit.intOf]; done) | (simp [RowKit.intOf]; omega)
      | false =>
       go_wp2_with fail
       refine (HF3.out.yd.busy i false ⟨_, HI.out, rfl⟩).mono ?_
       rintro r2 w4 ⟨rfl, rfl⟩
       go_wp2_with fail
       go_roundw
       case rel => exact ⟨s', i + 1, false, l3, Y, J3, Yg, by have := HT.out; omega, hs, rfl, rfl, by go_num, HF3, zIc (fun h => by cases h), zIc (fun _ k hk => by
        by_cases e : k = i
        ·rw [e]; exact HI.out
        ·exact HV.out trivial k (by omega))⟩
       case measure => have := HT.out; first | omega | (simp [RowKit.intOf]; done) | (simp [RowKit.intOf]; omega)
     | true =>
      obtain ⟨T, q, z, HK, Yg3, HF3⟩ : ∃ (T : Wk) (q : Nat) (z : Int), Hid (Y.ts[i]? = some (some (T, q))) ∧ ∃ Yg3, Hid (FnL W w3 l3 B N Yf n Q b μ0 (Y.step (plOf B N i) i T q z) J3 (r * B.T + (i + 1)) (s' + 1) Yg3 l J) := by
       rcases H3.out with ⟨h4, _⟩ | ⟨_, k, T, q, z, h5, h6, h7, h8⟩
       ·cases h4
       ·obtain rfl : k = i := by omega
        have hL := HL.out
        have hG := HG.out
        rw [h8] at hL hG
        obtain ⟨Yg3, h9⟩ := HF.out.step rfl hlt h1 h2 hn h6 h7 hL hG
        exact ⟨T, q, z, zIc h6, Yg3, zIc h9⟩
      obtain ⟨a, HA1⟩ : ∃ a, Hid ((Y.step (plOf B N i) i T q z).ts[i]? = some a) := by
       cases hq : (Y.step (plOf B N i) i T q z).ts[i]? with
       | none =>
        rw [List.getElem?_eq_none_iff] at hq
        have := HF3.out.yd.ok.len
        omega
       | some a => exact ⟨a, zIc rfl⟩
      have HV3 : Hid (bz = false → ∀ k, k < i → (Y.step (plOf B N i) i T q z).ts[k]? = some none) := zIc (fun hb k hk => by
       rw [zGT (by omega)]
       exact HV.out hb k hk)
      have hsb : s' < 1000000 := by have := HF3.out.few; omega
      generalize Y.step (plOf B N i) i T q z = Y4 at HF3 HA1 HV3
      clear HF HL HG H3 HV
      cases bz with
      | true =>
       go_wp2_with fail
       go_roundw
       case rel => exact ⟨s' + 1, i + 1, true, l3, Y4, J3, Yg3, by have := HT.out; omega, by omega, by go_num, rfl, by go_num, HF3, zIc (fun _ => by omega), zIc (fun h => by cases h)⟩
       case measure => have := HT.out; first | omega | (simp [RowKit.intOf]; done) | (simp [RowKit.intOf]; omega)
      | false =>
       go_wp2_with fail
       refine (HF3.out.yd.busy i a.isSome ⟨_, HA1.out, rfl⟩).mono ?_
       rintro r2 w4 ⟨rfl, rfl⟩
       go_wp2_with fail
       go_roundw
       case rel => exact ⟨s' + 1, i + 1, a.isSome, l3, Y4, J3, Yg3, by have := HT.out; omega, by omega, by go_num, rfl, by go_num, HF3, zIc (fun _ => by omega), zIc (fun hz k hk => by
        by_cases e : k = i
        ·rw [e, HA1.out]
         cases a with
         | none => rfl
         | some a => cases hz
        ·exact HV3.out trivial k (by omega))⟩
       case measure => have := HT.out; first | omega | (simp [RowKit.intOf]; done) | (simp [RowKit.intOf]; omega)
    ·obtain rfl : i = B.T := by omega
     have hnn : ¬ (B.T : Int) < B.t := by have := HT.out; omega
     have hfew := HF.out.few
     go_wp2_with fail
     go_roundw
     case rel => exact ⟨r + 1, s', bz, ly, Y, Jy, Yg, rfl, rfl, (by rw [Nat.add_mul, Nat.one_mul]; exact HF), HV⟩
     case measure =>
      cases bz with
      | true =>
       have := HU.out rfl
       simp [RowKit.intOf]
       omega
      | false =>
       simp [RowKit.intOf]
       omega
end
section
open Go.RowKit
structure Row8 (w : World) (A : Option Addr) (l : List Int) : Prop where
 at' : IsAt w A (l.map u8)
 byt : Byt l
theorem Row8.later {w w' : World} {A : Option Addr} {l : List Int} (h : Row8 w A l) (e : Below w.heap.size w w') : Row8 w' A l := ⟨h.at'.later e, h.byt⟩
theorem Row8.own {w : World} {base n cap : Nat} {A : Option Addr} {l : List Int} (h : w.ownsRow base 5 1 (.slice A n cap) n (l.map u8)) (hb : Byt l) : Row8 w A l := ⟨IsAt.own h, hb⟩
theorem EncIs.yes {w' : World} {base : Nat} {t s so d : Int} {ms : List CM} {v : Value} {e : Int} (h : EncIs w' base t s so d ms v e) (hr : rightC t s so d = true) (hn : ms.length ≤ 65536) (hm : ∀ m ∈ ms, m.Right) : e = 0 ∧ Own8 w' base v ([t, s, so, d] ++ encs ms) := by
 cases h with
 | conf h => rw [hr] at h; cases h
 | many _ h => omega
 | arg _ _ h => obtain ⟨m, h1, h2⟩ := h; exact absurd (hm m h1) h2
 | ok _ _ _ _ ho => exact ⟨rfl, ho⟩
theorem zB7 {a : Int} {l : List Int} (h0 : 0 ≤ a) (h1 : a ≤ 255) (hl : Byt l) : Byt (a :: l) := fun b hb => by
 rcases List.mem_cons.1 hb with rfl | hb
 ·exact ⟨h0, h1⟩
 ·exact hl b hb
theorem zFE {t s so d : Int} {ms : List CM} (hr : rightC t s so d = true) (hm : ∀ m ∈ ms, m.Right) : Byt ([t, s, so, d] ++ encs ms) := by
 have h := of_decide_eq_true hr
 exact zB7 (by omega) (by omega) (zB7 (by omega) (by omega) (zB7 (by omega) (by omega) (zB7 (by omega) (by omega) (zDc hm))))
theorem DecIs.yes {l : List Int} {ms : List CM} {n e : Int} (h : DecIs l ms n e) (he : e = 0) : (∀ m ∈ ms, m.Good) ∧ ms.length ≤ 65536 ∧ l = encs ms := by
 cases h with
 | ok _ h1 h2 h3 => exact ⟨h1, h2, h3⟩
 | form _ _ _ _ _ _ _ => exact absurd he (by decide)
 | many _ _ _ _ _ _ _ => exact absurd he (by decide)
theorem DecPost.yes {w' : World} {base : Nat} {l : List Int} {v : Value} {n e t s so d : Int} {ms : List CM} (h : DecPost w' base l v n e) (hl : l = t :: s :: so :: d :: encs ms) (hr : rightC t s so d = true) (hg : ∀ m ∈ ms, m.Good) (hn : ms.length ≤ 65536) :
  e = 0 ∧ n = (l.length : Int) ∧ ∃ A cp, v = scV t s so d (.slice A ms.length cp) ∧ w'.ownsRow base 39 7 (.slice A ms.length cp) ms.length (flatM ms) := by
 cases h with
 | short h =>
  rw [hl] at h
  simp at h
  omega
 | conf t' s' so' d' r' h hr' =>
  rw [hl] at h
  simp only [List.cons.injEq] at h
  obtain ⟨rfl, rfl, rfl, rfl, _⟩ := h
  rw [hr] at hr'
  cases hr'
 | bad t' s' so' d' r' n' e' h hr' hd he =>
  rw [hl] at h
  simp only [List.cons.injEq] at h
  obtain ⟨rfl, rfl, rfl, rfl, rfl⟩ := h
  exact absurd (hd.of hg hn).2.2 he
 | ok t' s' so' d' r' ms' A cp h hr' hd ho =>
  rw [hl] at h
  simp only [List.cons.injEq] at h
  obtain ⟨rfl, rfl, rfl, rfl, rfl⟩ := h
  obtain ⟨rfl, _⟩ := hd.of hg hn
  exact ⟨rfl, rfl, A, cp, rfl, ho⟩
end
section
open Go.RowKit
def B19 : YB := ⟨0, 0, 0, 0, (2 : Nat), 1, 0, 0, 2⟩
def lookF (B : YB) (N : Nat) (z : Nat → Int) (Y0 : Yd) : Nat → Yd × Nat
 | 0 => (Y0, 0)
 | j + 1 => match (lookF B N z Y0 j).1.ts[j % B.T]? with
  | some (some (T, i)) => ((lookF B N z Y0 j).1.step (plOf B N (j % B.T)) (j % B.T) T i (z j), (lookF B N z Y0 j).2 + 1)
  | _ => lookF B N z Y0 j
theorem Tick.look {B : YB} {N : Nat} {Y0 Y : Yd} {j s : Nat} {z : Nat → Int} (h : Tick B N Y0 j Y s)
  (hz : ∀ (j : Nat) (T : Wk) (i : Nat) (z' : Int), (lookF B N z Y0 j).1.ts[j % B.T]? = some (some (T, i)) → T.ask (lookF B N z Y0 j).1.C z' → T.step (plOf B N (j % B.T)) (lookF B N z Y0 j).1.C (lookF B N z Y0 j).1.now z' = T.step (plOf B N (j % B.T)) (lookF B N z Y0 j).1.C (lookF B N z Y0 j).1.now (z j)) :
  lookF B N z Y0 j = (Y, s) := by
 induction h with
 | zero => rfl
 | @skip j Y s h hn ih =>
  show (match (lookF B N z Y0 j).1.ts[j % B.T]? with
   | some (some (T, i)) => ((lookF B N z Y0 j).1.step (plOf B N (j % B.T)) (j % B.T) T i (z j), (lookF B N z Y0 j).2 + 1)
   | _ => lookF B N z Y0 j) = _
  rw [ih]
  simp only
  rw [hn]
 | @step j Y s h T i z' hk ha ih =>
  have e := hz j T i z' (by rw [ih]; exact hk) (by rw [ih]; exact ha)
  show (match (lookF B N z Y0 j).1.ts[j % B.T]? with
   | some (some (T, i)) => ((lookF B N z Y0 j).1.step (plOf B N (j % B.T)) (j % B.T) T i (z j), (lookF B N z Y0 j).2 + 1)
   | _ => lookF B N z Y0 j) = _
  rw [ih] at e ⊢
  simp only at e ⊢
  rw [hk]
  simp only
  unfold Yd.step
  rw [e]
theorem zDY {B : YB} {N : Nat} {Y0 : Yd} {z : Nat → Int} {q : Nat} (h : ∀ a, a ∈ (lookF B N z Y0 q).1.ts → a = none) : ∀ k, lookF B N z Y0 (q + k) = lookF B N z Y0 q
 | 0 => rfl
 | k + 1 => by
  have ih := zDY h k
  show (match (lookF B N z Y0 (q + k)).1.ts[(q + k) % B.T]? with
   | some (some (T, i)) => ((lookF B N z Y0 (q + k)).1.step (plOf B N ((q + k) % B.T)) ((q + k) % B.T) T i (z (q + k)), (lookF B N z Y0 (q + k)).2 + 1)
   | _ => lookF B N z Y0 (q + k)) = _
  rw [ih]
  cases hq : (lookF B N z Y0 q).1.ts[(q + k) % B.T]? with
  | none => rfl
  | some a =>
   have := h a (List.mem_of_getElem? hq)
   subst this
   rfl
def Y19 : Yd := (yd0 2 2).call 0 0 0 7 0 (wkB B19 2 0 false 0 7 0)
theorem FinM.mono {pl : Nat → Pl} {t put b μ μ' : Nat} {Y : Yd} (h : FinM pl t put b Y μ) (hm : μ ≤ μ') : FinM pl t put b Y μ' := by
 obtain ⟨s, tu, h1, h2⟩ := h
 exact ⟨s, tu, h1, Nat.le_trans h2 hm⟩
theorem zF1 (w : Nat) : updN (fun _ => 0) w 0 = fun _ => 0 := funext (fun k => by unfold updN; split <;> rfl)
theorem YTr.books {B : YB} {N m Q : Nat} {Y : Nat → Yd} (h : YTr B N Y m) (hQ : B.s * (B.t + 1) + most B.t B.so B.d + 2 = (Q : Int)) : ∀ i, i ≤ m → Books (plOf B N) Q (Y i) (fun _ => 0) (fun _ => 0)
 | 0, _ => Books.none (fun k a hk => by
  rw [h.zero] at hk
  have hk' : (List.replicate B.T (none : Option (Wk × Nat)))[k]? = some (some a) := hk
  rw [List.getElem?_replicate] at hk'
  split at hk' <;> cases hk')
 | i + 1, hi => by
  have ih := YTr.books h hQ i (by omega)
  have hok := (h.all i (by omega)).ok
  have hw := h.how i (by omega)
  generalize Y (i + 1) = Z at hw
  cases hw with
  | rest => exact ih
  | call w take kd e x s hq he hk =>
   have h1 := ih.call (kd := kd) (e := e) (x := x) (s := s) hq (OLeft.begun (who := (w : Int)) (e := e) (x := x) (start := s) (m := (w : Int) * B.s) (nb := 2 * N + B.T) (h0 := 2 * N) (hw := 2 * N + w) (C := (Y i).C) take h.cf.lay hQ)
   rw [zF1] at h1
   exact h1
  | step w T i2 z hq ha =>
   obtain ⟨_, g2⟩ := ih.step hok (fun _ => rfl) hq ha (fun j => (h.fit i (by omega) j).1) (dl := 1) (.inr (Nat.le_refl _))
   exact fun k T' i' hk => (g2 k T' i' hk).again.more (Nat.zero_le _)
  | pass k hk => exact ih
structure Fin4 (W w : World) (l : List Thing) (B : YB) (N : Nat) (Yf : Nat → Yd) (n : Nat) (J : Nat → Nat) (w' : World) (s j : Nat) (l' : List Thing) (Y' : Yd) (J' : Nat → Nat) (Yg : Nat → Yd) : Prop where
 yd : YdL W w' l' B N Y' J' (n + s)
 tr : YTr B N Yg (n + s)
 at' : Yg (n + s) = Y'
 same : ∀ i, i ≤ n → Yg i = Yf i
 tick : Tick B N (Yf n) j Y' s
 few : s ≤ 5924
 go : YGo (Yf n) Y' l l' J J'
 idle : ∀ k, k < B.T → Y'.ts[k]? = some none
theorem zEo {W w : World} {l : List Thing} {B : YB} {N n : Nat} {Yf : Nat → Yd} {J : Nat → Nat} (h : YdL W w l B N (Yf n) J n) (ht : YTr B N Yf n) (hn : n < 990000) (t4 : B.T ≤ 4) (n16 : N ≤ 16) (s4 : B.s ≤ 4) (d3 : B.d ≤ 3) :
  Calls Tryz.prog 28 #[pt B.yb] w fun r w' => ∃ (s j : Nat) (l' : List Thing) (Y' : Yd) (J' : Nat → Nat) (Yg : Nat → Yd), r = .returned (i64 s) ∧ Fin4 W w l B N Yf n J w' s j l' Y' J' Yg := by
 have hT := h.hT
 have hs1 := h.cf.lay.s1
 have ht1 := h.cf.lay.t1
 have hd0 := h.cf.d0
 have hm : 0 ≤ most B.t B.so B.d ∧ most B.t B.so B.d ≤ 6 := by
  unfold most
  repeat' split
  all_goals omega
 have hst : 0 ≤ B.s * (B.t + 1) ∧ B.s * (B.t + 1) ≤ 20 := ⟨Int.mul_nonneg (by omega) (by omega), by
  have h1 : B.s * (B.t + 1) ≤ 4 * (B.t + 1) := Int.mul_le_mul_of_nonneg_right s4 (by omega)
  omega⟩
 obtain ⟨Q, hQ⟩ : ∃ Q : Nat, B.s * (B.t + 1) + most B.t B.so B.d + 2 = (Q : Int) := ⟨(B.s * (B.t + 1) + most B.t B.so B.d + 2).toNat, by omega⟩
 have hbk := ht.books hQ n (Nat.le_refl _)
 have hbu := zIK h.ok
 have hf : FinM (plOf B N) B.T Q 296 (Yf n) 5924 := (FinM.of (t := B.T) (b := 296) hbk).mono (by
  have h1 : busyN (Yf n) * (B.T * 296 + 1) ≤ 4 * (4 * 296 + 1) := Nat.mul_le_mul (by omega) (by omega)
  omega)
 have h2 : B.T * (4 * N + 10) ≤ 296 := Nat.le_trans (Nat.mul_le_mul t4 (show 4 * N + 10 ≤ 74 by omega)) (by decide)
 refine (zIN h ht hf (by omega) h2 (by omega)).mono ?_
 rintro r w' ⟨s, j, l', Y', J', Yg, rfl, h3, h4⟩
 exact ⟨s, j, l', Y', J', Yg, rfl, h3.yd, h3.tr, h3.at', h3.same, h3.tick, h3.few, h3.go, h4⟩
theorem zGO {B : YB} {N : Nat} {Y Y' : Yd} {k : Nat} {e x a : Int} (h : PDo B N ⟨0, k, 0, e, x, 0, 0⟩ Y Y' a) (hk : (k : Int) < B.t) (he : e = 0 ∨ e = 1) (hq : Y.ts[k]? = some Option.none) : a = 0 ∧ Y' = Y.call k 0 e x 0 (wkB B N k false e x 0) := by
 have ha : CM.asks ⟨0, k, 0, e, x, 0, 0⟩ := ⟨.inl rfl, he⟩
 cases h with
 | out h hw =>
  rcases hw with hw | hw | hw
  ·have hw' : (k : Int) < 0 := hw
   omega
  ·have hw' : B.t ≤ (k : Int) := hw
   omega
  ·exact absurd ha hw
 | busy k' a' h hw ha' hb =>
  have hw' : (k : Int) = k' := hw
  obtain rfl : k = k' := by omega
  rw [hq] at hb
  cases hb
 | call k' take h hw hk' he' hq' =>
  have hw' : (k : Int) = k' := hw
  obtain rfl : k = k' := by omega
  cases take with
  | false => exact ⟨rfl, rfl⟩
  | true => exact absurd (show (1 : Int) = 0 from hk') (by decide)
 | none h => exact absurd (show (0 : Int) = 1 from h) (by decide)
 | step k' T i z h => exact absurd h (by show ¬ (0 : Int) = 1; decide)
 | pass h => exact absurd h (by show ¬ (0 : Int) = 2; decide)
 | still h => exact absurd h (by show ¬ (0 : Int) = 2; decide)
 | other h0 => exact absurd rfl h0
end
section
open Go.RowKit
structure PBy (w : World) (l : List Int) (r : Ending) (w' : World) (T : Nat) (s so d : Int) (N : Nat) (ms : List CM) (W : World) (lx : List Thing) (yb ytb p c : Nat) (Yf : Nat → Yd) (An : List Int) (J : Nat → Nat) (g : Nat) : Prop where
 is : l = (T : Int) :: s :: so :: d :: encs ms
 good : ∀ m ∈ ms, m.Good
 few : ms.length ≤ 65536
 right : rightC T s so d = true
 lay : Lay T s N
 ret : r = .returned (.tuple #[pt yb, .slice (some ⟨g, 0, none⟩) ms.length ms.length, i64 0])
 below : Below w.heap.size w W
 run : PRn W w' lx ⟨yb, ytb, p, c, T, s, so, d, T⟩ N ms Yf An J g
theorem zFY (A : Option Addr) (l : List Int) (cap : Nat) (w : World) (h : IsAt w A (l.map u8)) (hb : Byt l) (hc : l.length ≤ cap) (hf : l.length ≤ 1000000) :
  Calls Tryz.prog 17 #[.slice A l.length cap] w fun r w' =>
   (∃ w1 v n e, DecPost w1 w.heap.size l v n e ∧ e ≠ 0 ∧ r = .returned (.tuple #[.pointer none, .slice none 0 0, i64 e]) ∧ Below w.heap.size w w') ∨
   (∃ T s so d N ms W lx yb ytb p c Yf An J g, PBy w l r w' T s so d N ms W lx yb ytb p c Yf An J g) := by
 have HD := zIc (zE1 A l cap w h hb hc hf)
 clear h hb hc hf
 go_enter Tryz.func17, Tryz.ntmps17
 go_wp2_with fail
 refine HD.out.mono ?_
 rintro r w2 ⟨v, n, e, rfl, hb2, hD⟩
 have HB2 := zIc hb2
 clear hb2 HD
 cases hD with
 | short h =>
  go_wp2_with fail
  exact bodyPost_ret (v := .tuple #[.pointer none, .slice none 0 0, i64 3]) (by simp [results, Tryz.results17, go_sem]) rfl (.inl ⟨w2, _, _, 3, .short h, by decide, rfl, zAA HB2.out _⟩)
 | conf t s so d r h hr =>
  have H := zIc (And.intro h hr)
  clear h hr
  go_wp2_with fail
  exact bodyPost_ret (v := .tuple #[.pointer none, .slice none 0 0, i64 1]) (by simp [results, Tryz.results17, go_sem]) rfl (.inl ⟨w2, _, _, 1, .conf t s so d r H.out.1 H.out.2, by decide, rfl, zAA HB2.out _⟩)
 | bad t s so d r n e h hr hd he =>
  have H := zIc (And.intro h (And.intro hr hd))
  have e0 : (e == 0) = false := beq_false_of_ne he
  clear h hr hd
  go_wp2_with fail
  exact bodyPost_ret (v := .tuple #[.pointer none, .slice none 0 0, i64 e]) (by simp [results, Tryz.results17, go_sem]) rfl (.inl ⟨w2, _, _, e, .bad t s so d r n e H.out.1 H.out.2.1 H.out.2.2 he, he, rfl, zAA HB2.out _⟩)
 | ok t s so d r ms A1 cp h hr hd ho =>
  obtain ⟨hg, hm, rfl⟩ := hd.yes rfl
  obtain ⟨T, N, rfl, hlay, o0, o1, d0, d1⟩ := zE0 hr
  have H := zIc (And.intro h (And.intro hr (And.intro hg (And.intro hm hlay))))
  have HI2 := zIc ((IsAt.own ho).later (zAA (Below.refl _ _) (.cells #[.int .i64 T, .int .i64 s, .int .i64 so, .int .i64 d, .slice A1 ms.length cp] 29)))
  have HB3 := zIc (zAA HB2.out (.cells #[.int .i64 T, .int .i64 s, .int .i64 so, .int .i64 d, .slice A1 ms.length cp] 29))
  have hm2 : ms.length < 900000 := by omega
  clear h hr hg hm hlay ho hd
  go_wp2_with fail
  refine (zDP T s so d N A1 cp ms _ HI2.out (fun m hm => (H.out.2.2.1 m hm).2) hm2 H.out.2.2.2.2 o0 o1 d0 d1).mono ?_
  rintro r w4 ⟨W, lx, yb, ytb, p, c, Yf, An, J, g, rfl, hb, hP⟩
  have HZ := zIc (zAE HB3.out hb)
  have HP := zIc hP
  clear hb hP
  go_wp2_with fail
  exact bodyPost_ret (v := .tuple #[pt yb, .slice (some ⟨g, 0, none⟩) ms.length ms.length, i64 0]) (by simp [results, Tryz.results17, go_sem]) rfl (.inr ⟨T, s, so, d, N, ms, W, lx, yb, ytb, p, c, Yf, An, J, g, H.out.1, H.out.2.2.1, H.out.2.2.2.1, H.out.2.1, H.out.2.2.2.2, rfl, HZ.out, HP.out⟩)
end
section
open Go.RowKit
def BA : YB := ⟨0, 0, 0, 0, (2 : Nat), 2, 0, 0, 2⟩
def YA : Yd := ((yd0 4 2).call 0 0 1 5 0 (wkB BA 4 0 false 1 5 0)).call 1 0 0 6 0 (wkB BA 4 1 false 0 6 0)
theorem lA_8 : (lookF BA 4 (fun _ => 0) YA 8).1.ts = [none, none] ∧ (lookF BA 4 (fun _ => 0) YA 8).2 = 8 ∧ (lookF BA 4 (fun _ => 0) YA 8).1.moves = 10 ∧ ∃ d0 d1, (lookF BA 4 (fun _ => 0) YA 8).1.ds = [d0, d1] ∧ (d0.kd = 0 ∧ d0.e = 1 ∧ d0.x = 5 ∧ d0.ok = true ∧ d0.till = 8) ∧ (d1.kd = 0 ∧ d1.e = 0 ∧ d1.x = 6 ∧ d1.ok = true ∧ d1.till = 9) :=
 ⟨rfl, rfl, rfl, _, _, rfl, ⟨rfl, rfl, rfl, rfl, rfl⟩, ⟨rfl, rfl, rfl, rfl, rfl⟩⟩
theorem lA_ts : ∀ j, j < 8 → ∃ (a : Option (Wk × Nat)) (k : Pu) (i : Nat), (lookF BA 4 (fun _ => 0) YA j).1.ts = [a, some (.pu k, i)] ∧ ∀ T i', a = some (T, i') → ∃ k', T = .pu k'
 | 0, _ => ⟨_, _, _, rfl, fun T i' h => by cases h; exact ⟨_, rfl⟩⟩
 | 1, _ => ⟨_, _, _, rfl, fun T i' h => by cases h; exact ⟨_, rfl⟩⟩
 | 2, _ => ⟨_, _, _, rfl, fun T i' h => by cases h; exact ⟨_, rfl⟩⟩
 | 3, _ => ⟨_, _, _, rfl, fun T i' h => by cases h; exact ⟨_, rfl⟩⟩
 | 4, _ => ⟨_, _, _, rfl, fun T i' h => by cases h; exact ⟨_, rfl⟩⟩
 | 5, _ => ⟨_, _, _, rfl, fun T i' h => by cases h; exact ⟨_, rfl⟩⟩
 | 6, _ => ⟨_, _, _, rfl, fun T i' h => by cases h; exact ⟨_, rfl⟩⟩
 | 7, _ => ⟨_, _, _, rfl, fun T i' h => by cases h⟩
 | j + 8, h => by omega
theorem finA {j s : Nat} {Y : Yd} (h : Tick BA 4 YA j Y s) (hi : ∀ k, k < 2 → Y.ts[k]? = some none) : s = 8 ∧ Y = (lookF BA 4 (fun _ => 0) YA 8).1 := by
 have h8 : ∀ a, a ∈ (lookF BA 4 (fun _ => 0) YA 8).1.ts → a = none := fun a ha => by
  rw [lA_8.1] at ha
  simpa using ha
 have hst := zDY h8
 have hl := h.look (z := fun _ => 0) (fun j T i z' hk _ => by
  rcases Nat.lt_or_ge j 8 with hj | hj
  ·obtain ⟨a, k, q, e, hp⟩ := lA_ts j hj
   rw [e] at hk
   rcases (show j % 2 = 0 ∨ j % 2 = 1 by omega) with e2 | e2
   ·have hk' : [a, some (Wk.pu k, q)][j % 2]? = some (some (T, i)) := hk
    rw [e2] at hk'
    have hk2 : a = some (T, i) := by simpa using hk'
    obtain ⟨k', rfl⟩ := hp T i hk2
    rfl
   ·have hk' : [a, some (Wk.pu k, q)][j % 2]? = some (some (T, i)) := hk
    rw [e2] at hk'
    cases hk'
    rfl
  ·obtain ⟨k, rfl⟩ : ∃ k, j = 8 + k := ⟨j - 8, by omega⟩
   rw [hst] at hk
   have := h8 _ (List.mem_of_getElem? hk)
   cases this)
 rcases Nat.lt_or_ge j 8 with hj | hj
 ·obtain ⟨a, k, q, e, _⟩ := lA_ts j hj
  rw [hl] at e
  have := hi 1 (by decide)
  have e' : Y.ts = _ := e
  rw [e'] at this
  cases this
 ·obtain ⟨k, rfl⟩ : ∃ k, j = 8 + k := ⟨j - 8, by omega⟩
  rw [hst] at hl
  exact ⟨(congrArg Prod.snd hl).symm.trans lA_8.2.1, (congrArg Prod.fst hl).symm⟩
theorem zIH {B : YB} {N j s : Nat} {Y0 Y : Yd} (h : Tick B N Y0 j Y s) : Y.ds.length = Y0.ds.length := by
 induction h with
 | zero => rfl
 | skip h hn ih => exact ih
 | @step j Y s h T i z hk ha ih =>
  rw [← ih]
  show (if _ then Y.ds else Y.ds.modify i _).length = _
  split
  ·rfl
  ·rw [List.length_modify]
theorem yA_of {yb ytb p c : Nat} {Yf : Nat → Yd} {An : List Int} (h : PTr ⟨yb, ytb, p, c, (2 : Nat), 2, 0, 0, 2⟩ 4 [⟨0, 0, 0, 1, 5, 0, 0⟩, ⟨0, 1, 0, 0, 6, 0, 0⟩] Yf An) : Yf 2 = YA := by
 obtain ⟨a, ha⟩ : ∃ a, An[0]? = some a := ⟨_, List.getElem?_eq_getElem (by rw [h.len]; decide)⟩
 obtain ⟨a', ha'⟩ : ∃ a, An[1]? = some a := ⟨_, List.getElem?_eq_getElem (by rw [h.len]; decide)⟩
 have h1 := h.at' 0 _ a rfl ha
 have h2 := h.at' 1 _ a' rfl ha'
 have hz : Yf 0 = yd0 4 2 := h.tr.zero
 rw [hz] at h1
 have e1 := (zGO (k := 0) (e := 1) (x := 5) h1 (by show (0 : Int) < (2 : Nat); decide) (.inr rfl) rfl).2
 have h2' : PDo _ 4 ⟨0, 1, 0, 0, 6, 0, 0⟩ (Yf 1) (Yf 2) a' := h2
 have e1' : Yf 1 = _ := e1
 rw [e1'] at h2'
 exact (zGO (k := 1) (e := 0) (x := 6) h2' (by show (1 : Int) < (2 : Nat); decide) (.inl rfl) rfl).2
theorem aliveV {B : YB} {Yg : Nat → Yd} {m : Nat} (hs : B.s = 2) (ht : YTr B 4 Yg m) {n0 : Nat} (hn0 : n0 < m) (h0 : Yg n0 = (lookF BA 4 (fun _ => 0) YA 8).1) {T0 : Wk} (h1 : Yg (n0 + 1) = (Yg n0).call 0 1 0 0 0 T0) (hl : (Yg m).ds.length = 3) (hi : ∀ k, k < B.T → (Yg m).ts[k]? = some none) :
  ∃ d0 d1 d2, (Yg m).ds = [d0, d1, d2] ∧ d2.ok = true ∧ d2.v = 6 := by
 obtain ⟨_, _, hmv, d0, d1, hds, p0, p1⟩ := lA_8
 have hA := (ht.all m (Nat.le_refl _)).ok
 have L0 := ht.later (a := n0) (b := m) (by omega) (Nat.le_refl _)
 have L1 := ht.later (a := n0 + 1) (b := m) (by omega) (Nat.le_refl _)
 have g0 : (Yg m).ds[0]? = some d0 := by
  obtain ⟨d', a, _, _, _, _, _, _, b⟩ := L0.deed 0 d0 (by rw [h0, hds]; rfl)
  rw [b (by omega)] at a
  exact a
 have g1 : (Yg m).ds[1]? = some d1 := by
  obtain ⟨d', a, _, _, _, _, _, _, b⟩ := L0.deed 1 d1 (by rw [h0, hds]; rfl)
  rw [b (by omega)] at a
  exact a
 obtain ⟨d2, g2, _, k2, e2, _, _, f2, _⟩ := L1.deed 2 ⟨(0 : Nat), 1, 0, 0, 0, (Yg n0).moves, -1, false, 0, 0, 0⟩ (by
  rw [h1]
  show ((Yg n0).ds ++ [_])[2]? = _
  rw [h0, hds]
  rfl)
 have k2' : d2.kd = 1 := k2
 have e2' : d2.e = 0 := e2
 have f2' : d2.fr = 10 := by
  rw [f2]
  show ((Yg n0).moves : Int) = 10
  rw [h0, hmv]
  rfl
 have over : ∀ (i : Nat) (d : Dd), (Yg m).ds[i]? = some d → 0 ≤ d.till := fun i d hd => by
  obtain ⟨⟨w, _, hw, g3⟩, q0, _, g6⟩ := hA.deed i d hd
  by_cases e : d.till = -1
  ·obtain ⟨T, hT⟩ := g3 e
   rw [hi w hw] at hT
   cases hT
  ·have := (g6 e).1
   omega
 have hall : ∀ (i : Nat) (d : Dd), (Yg m).ds[i]? = some d → (i = 0 ∧ d = d0) ∨ (i = 1 ∧ d = d1) ∨ (i = 2 ∧ d = d2) := fun i d hd => by
  have hlt := (List.getElem?_eq_some_iff.1 hd).1
  rw [hl] at hlt
  match i, hlt, hd with
  | 0, _, hd => rw [g0] at hd; cases hd; exact .inl ⟨rfl, rfl⟩
  | 1, _, hd => rw [g1] at hd; cases hd; exact .inr (.inl ⟨rfl, rfl⟩)
  | 2, _, hd => rw [g2] at hd; cases hd; exact .inr (.inr ⟨rfl, rfl⟩)
 have hx : DOwn (Yg m).ds := fun i i' d d' q q' r r' e => by
  rcases hall i d q with ⟨rfl, rfl⟩ | ⟨rfl, rfl⟩ | ⟨rfl, rfl⟩ <;> rcases hall i' d' q' with ⟨rfl, rfl⟩ | ⟨rfl, rfl⟩ | ⟨rfl, rfl⟩ <;> omega
 have b0 : dBef d0 d2 := ⟨by omega, by omega⟩
 have b1 : dBef d1 d2 := ⟨by omega, by omega⟩
 have ok2 : d2.ok = true := by
  cases hok : d2.ok with
  | true => rfl
  | false =>
   obtain ⟨k, dk, q1, q2, q3, q4, q5⟩ := zEC ht (fun g dg hg _ => over g dg hg) g2 k2' hok g1 p1.1 p1.2.2.2.1 b1
   rcases hall k dk q1 with ⟨_, rfl⟩ | ⟨_, rfl⟩ | ⟨_, rfl⟩
   ·omega
   ·omega
   ·rw [hok] at q3
    cases q3
 refine ⟨d0, d1, d2, ?_, ok2, ?_⟩
 ·refine List.ext_getElem? (fun i => ?_)
  rcases Nat.lt_or_ge i 3 with h | h
  ·match i, h with
   | 0, _ => exact g0
   | 1, _ => exact g1
   | 2, _ => exact g2
  ·rw [List.getElem?_eq_none (by omega), List.getElem?_eq_none (by exact h)]
 ·obtain ⟨i, d, q1, q2, _, q4, _⟩ := zFR ht g2 k2' ok2 (over 2 d2 g2)
  rcases hall i d q1 with ⟨rfl, rfl⟩ | ⟨rfl, rfl⟩ | ⟨_, rfl⟩
  ·exfalso
   refine zHO ht (by decide) hx g2 k2' ok2 (.inl e2') g0 p0.1 q4.symm g1 p1.1 p1.2.2.2.1 b1 (r := -1) ⟨.inl ⟨rfl, fun d hd hh => ?_⟩⟩ (.inl ⟨by decide, fun k dk hk _ => over k dk hk⟩) ?_
   ·obtain ⟨i, hi2⟩ := List.mem_iff_getElem?.1 hd
    have h1 := hh.1
    have h2 := hh.2.2
    rcases hall i d hi2 with ⟨_, rfl⟩ | ⟨_, rfl⟩ | ⟨_, rfl⟩ <;> omega
   ·unfold dNear
    rw [e2', if_pos p1.2.1]
    left
    omega
  ·omega
  ·omega
theorem zAY (w : World) : Calls Tryz.prog 23 #[] w fun r w' => r = .returned (.bool true) ∧ Below w.heap.size w w' := by
 have hn1 := zAA (Below.refl w.heap.size w) (.cells (flatM [⟨0, 0, 0, 1, 5, 0, 0⟩, ⟨0, 1, 0, 0, 6, 0, 0⟩]).toArray 39)
 have hn2 := zAA (Below.refl (w.alloc (.cells (flatM [⟨0, 0, 0, 1, 5, 0, 0⟩, ⟨0, 1, 0, 0, 6, 0, 0⟩]).toArray 39)).heap.size _) (.cells #[.int .i64 2, .int .i64 2, .int .i64 0, .int .i64 0, .slice (some ⟨w.heap.size, 0, none⟩) 2 2] 29)
 have hI : IsAt (w.alloc (.cells (flatM [⟨0, 0, 0, 1, 5, 0, 0⟩, ⟨0, 1, 0, 0, 6, 0, 0⟩]).toArray 39)) (some ⟨w.heap.size, 0, none⟩) (flatM [⟨0, 0, 0, 1, 5, 0, 0⟩, ⟨0, 1, 0, 0, 6, 0, 0⟩]) := fun _ => ⟨w.heap.size, 0, rfl, by simp, fun j u hj => by
  rw [Nat.zero_add]
  exact (IsObj.made w (flatM [⟨0, 0, 0, 1, 5, 0, 0⟩, ⟨0, 1, 0, 0, 6, 0, 0⟩]) 39).at' j u hj⟩
 have HI := zIc (hI.later hn2)
 have HB := zIc (zAE hn1 hn2)
 clear hn1 hn2 hI
 have hg : ∀ m ∈ ([⟨0, 0, 0, 1, 5, 0, 0⟩, ⟨0, 1, 0, 0, 6, 0, 0⟩] : List CM), m.Good := fun m hm => by
  simp only [List.mem_cons, List.not_mem_nil, or_false] at hm
  rcases hm with rfl | rfl
  ·exact ⟨.inl ⟨rfl, by decide, by decide, rfl, .inr rfl, .inl ⟨rfl, rfl⟩⟩, by decide, by decide⟩
  ·exact ⟨.inl ⟨rfl, by decide, by decide, rfl, .inl rfl, .inl ⟨rfl, rfl⟩⟩, by decide, by decide⟩
 have HG := zIc hg
 clear hg
 go_enter Tryz.func23, Tryz.ntmps23
 go_wp2_with fail
 refine (zFQ 2 2 0 0 (some ⟨w.heap.size, 0, none⟩) 2 [⟨0, 0, 0, 1, 5, 0, 0⟩, ⟨0, 1, 0, 0, 6, 0, 0⟩] _ HI.out (fun m hm => (HG.out m hm).2) (by decide)).mono ?_
 rintro r w3 ⟨vE, eE, rfl, hb3, hE⟩
 have hR : rightC 2 2 0 0 = true := by decide
 obtain ⟨rfl, ho⟩ := hE.yes hR (by decide) (fun m hm => (HG.out m hm).1)
 obtain ⟨Ab, cpb, rfl⟩ := zAK ho
 have HB3 := zIc (zAE HB.out hb3)
 have HIB := zIc (IsAt.own ho)
 have hcb := zET ho
 have HBY := zIc (zFE hR (fun m hm => (HG.out m hm).1))
 have HRR := zIc hR
 obtain ⟨lb, hlb⟩ : ∃ lb, [2, 2, 0, 0] ++ encs [⟨0, 0, 0, 1, 5, 0, 0⟩, ⟨0, 1, 0, 0, 6, 0, 0⟩] = lb := ⟨_, rfl⟩
 have hlen : lb.length ≤ 1000000 := by rw [← hlb]; decide
 rw [hlb] at hcb HIB HBY ⊢
 have HLB := zIc hlb
 clear hb3 ho hE hR hlb HB HI
 go_wp2_with fail
 refine (zFY Ab lb cpb w3 HIB.out HBY.out hcb hlen).mono ?_
 rintro r w4 (⟨w5, v', n', e', hD', he', rfl, hb⟩ | ⟨T, s', so', d', N, ms', W, lx, yb, ytb, p, c, Yf, An, J, g, hP⟩)
 ·exact absurd (hD'.yes HLB.out.symm HRR.out HG.out (by decide)).1 he'
 obtain ⟨h1, h2, h3, h4, h5, rfl, h7, h8⟩ := hP
 have e1 := HLB.out.trans h1
 simp only [List.cons_append, List.nil_append, List.cons.injEq] at e1
 obtain ⟨e2, rfl, rfl, rfl, e6⟩ := e1
 obtain rfl : T = 2 := by omega
 obtain rfl : N = 4 := by have := h5.eq; omega
 obtain rfl := zEs HG.out h2 e6
 have HP := zIc h8
 have HB4 := zIc (zAE HB3.out h7)
 clear h1 h2 h3 h4 h5 h7 h8 e6 e2 HB3 HIB HBY hcb hlen
 simp only [List.length_cons, List.length_nil]
 go_wp2_with fail
 refine (zEo (n := 2) HP.out.yd HP.out.tr.tr (by decide) (by show 2 ≤ 4; decide) (by decide) (by show (2 : Int) ≤ 4; decide) (by show (0 : Int) ≤ 3; decide)).mono ?_
 rintro r w6 ⟨s, j, l', Y', J', Yg, rfl, hF⟩
 obtain ⟨hs, hY8⟩ := finA (j := j) (s := s) (Y := Y') (by have h := hF.tick.like (B' := BA) ⟨rfl, rfl, rfl, rfl, rfl⟩; rw [yA_of HP.out.tr] at h; exact h) (fun k hk => hF.idle k hk)
 subst hs
 have HF := zIc hF
 have HY8 := zIc hY8
 clear hF hY8 HP
 go_wp2_with fail
 refine (HF.out.yd.call (by decide) 0 (by show 0 < 2; decide) true (kd := 1) rfl 0 0 0 (.inl rfl) (by decide) (by decide)).mono ?_
 rintro r w7 ⟨l7, J7, Y7, hd7, hg7, h7⟩
 rcases h7 with ⟨_, _, a, ha⟩ | ⟨rfl, hq, rfl⟩
 ·have := HF.out.idle 0 (by show 0 < 2; decide)
  rw [this] at ha
  cases ha
 have htr7 := HF.out.tr.callN HF.out.at' (k := 0) true (kd := 1) (e := 0) (x := 0) (s := 0) rfl (.inl rfl) (by decide) (by decide) hq (by decide)
 have HT7 := zIc htr7
 have HD7 := zIc hd7
 clear htr7 hd7 hg7 hq
 go_wp2_with fail
 refine (zEo (n := 11) (Yf := fun i => if i ≤ 2 + 8 then Yg i else Y'.call 0 1 0 0 0 (wkB ⟨yb, ytb, p, c, (2 : Nat), 2, 0, 0, 2⟩ 4 0 true 0 0 0)) HD7.out HT7.out (by decide) (by show 2 ≤ 4; decide) (by decide) (by show (2 : Int) ≤ 4; decide) (by show (0 : Int) ≤ 3; decide)).mono ?_
 rintro r w8 ⟨s2, j2, l8, Y8, J8, Yg8, rfl, hF8⟩
 have hlen8 : (Yg8 (11 + s2)).ds.length = 3 := by
  rw [hF8.at', zIH hF8.tick]
  show (Y'.ds ++ [_]).length = 3
  rw [HY8.out]
  obtain ⟨_, _, _, d0, d1, hds, _⟩ := lA_8
  rw [hds]
  rfl
 obtain ⟨d0, d1, d2, hds, hok, hv⟩ := aliveV (n0 := 10) rfl hF8.tr (by omega) (by rw [hF8.same 10 (by decide)]; show (if 10 ≤ 2 + 8 then Yg 10 else _) = _; rw [if_pos (by decide), ← HY8.out]; exact HF.out.at') (by
  rw [hF8.same 11 (by decide), hF8.same 10 (by decide)]
  show (if 11 ≤ 2 + 8 then _ else _) = Yd.call (if 10 ≤ 2 + 8 then Yg 10 else _) _ _ _ _ _ _
  rw [if_neg (by decide), if_pos (by decide)]
  have e := HF.out.at'
  rw [show Yg 10 = Y' from e]) hlen8 (fun k hk => by rw [hF8.at']; exact hF8.idle k hk)
 rw [hF8.at'] at hds
 have HF8 := zIc hF8
 have HV := zIc (And.intro hds (And.intro hok hv))
 have hdl : Y8.ds.length = 3 := by rw [hds]; rfl
 clear hF8 hlen8 hds hok hv HD7 HT7 HF HY8
 go_wp2_with fail
 refine (HF8.out.yd.deeds (by have := HF8.out.few; omega)).mono ?_
 rintro r w9 ⟨v9, rfl, hrow, hb9⟩
 obtain ⟨A9, cp9, rfl⟩ := zAK hrow
 have HZ := zIc (zAE HB4.out (HF8.out.yd.later hb9).h.below)
 have hat : ∃ b9, A9 = some ⟨b9, 0, none⟩ ∧ AtDd w9 b9 (2 * 11) d2 := by
  rcases hrow.2 with ⟨hv, h0⟩ | ⟨g9, cap', cur, hv, _⟩
  ·omega
  ·cases hv
   exact ⟨g9, rfl, AtDd.row hrow (by rw [HV.out.1]; rfl)⟩
 obtain ⟨b9, rfl, hat⟩ := hat
 have c7 := hat.c7
 have c8 := hat.c8
 rw [HV.out.2.1] at c7
 rw [HV.out.2.2] at c8
 clear hrow hb9 hat
 rw [hdl]
 clear hdl
 go_wp2_with fail
 go_ret
 exact ⟨rfl, HZ.out⟩
end
section
open Go.RowKit
def bM (t so d : Int) : Int := if so = 0 then 1 else if so = 1 then t + 1 else if so = 2 then 4 else if so = 3 then 1 else d + 2
structure BN (t s so d : Int) (N Q : Nat) : Prop where
 lay : Lay t s N
 d0 : 0 ≤ d
 d1 : d ≤ 100
 o0 : 0 ≤ so
 o1 : so ≤ 4
 q : s * (t + 1) + bM t so d + 2 = (Q : Int)
 qN : s * (t + 1) = (N : Int) + s
theorem BN.mk' {t s so d : Int} (t1 : 1 ≤ t) (t2 : t ≤ 64) (s1 : 1 ≤ s) (s2 : s ≤ 64) (d0 : 0 ≤ d) (d1 : d ≤ 100) (o0 : 0 ≤ so) (o1 : so ≤ 4) : ∃ N Q : Nat, BN t s so d N Q := by
 have hl := Lay.mk' t1 t2 s1 s2
 have hn := hl.n1
 have hm : 0 ≤ bM t so d := by
  unfold bM
  repeat' split
  all_goals omega
 have e : s * (t + 1) = t * s + s := by rw [Int.mul_add, Int.mul_one, Int.mul_comm]
 exact ⟨(t * s).toNat, (s * (t + 1) + bM t so d + 2).toNat, by rw [Int.toNat_of_nonneg (by omega)]; exact hl, d0, d1, o0, o1, by omega, by omega⟩
section
variable {t s so d : Int} {N Q : Nat}
theorem BN.bd (h : BN t s so d N Q) : 1 ≤ t ∧ t ≤ 64 ∧ 1 ≤ s ∧ s ≤ 64 ∧ 1 ≤ N ∧ N ≤ 4096 ∧ Q ≤ 4300 ∧ 1 ≤ bM t so d ∧ bM t so d ≤ 102 ∧ 3 ≤ Q := by
 have h1 := h.lay.t1; have h2 := h.lay.t2; have h3 := h.lay.s1; have h4 := h.lay.s2; have h5 := h.lay.n1; have h6 := h.lay.n2; have h7 := h.d0; have h8 := h.d1; have h9 := h.q; have h10 := h.qN
 have hm : 1 ≤ bM t so d ∧ bM t so d ≤ 102 := by
  unfold bM
  repeat' split
  all_goals omega
 omega
theorem zGk (h : BN t s so d N Q) (w : World) : Calls Tryz.prog 132 #[cf t s so d] w fun r w' => r = .returned (i64 (bM t so d)) ∧ Below w.heap.size w w' := by
 have o0 := h.o0; have o1 := h.o1; have b := h.bd; have t1 := h.lay.t1; have t2 := h.lay.t2; have d0 := h.d0; have d1 := h.d1
 clear h b
 rcases (by omega : so = 0 ∨ so = 1 ∨ so = 2 ∨ so = 3 ∨ so = 4) with rfl | rfl | rfl | rfl | rfl
 all_goals
  go_enter Tryz.func132, Tryz.ntmps132
  go_wp2
  go_ret
  exact ⟨rfl, zAA (Below.refl _ _) _⟩
theorem zFS (h : BN t s so d N Q) (q : Int) (hq : s * (t + 1) = q) (w : World) :
  Calls Tryz.prog 131 #[cf t s so d] w fun r w' => r = .returned (i64 q) ∧ Below w.heap.size w w' := by
 have b := h.bd
 have hw : wrap64 (s * (t + 1)) = q := by rw [hq]; have := h.qN; unfold wrap64; omega
 have Hw := zIc hw
 have t1 := h.lay.t1; have t2 := h.lay.t2
 clear hw hq h b
 go_enter Tryz.func131, Tryz.ntmps131
 go_wp2
 go_ret
 exact ⟨zAw Hw.out, zAA (Below.refl _ _) _⟩
theorem zII (h : BN t s so d N Q) (w : World) :
  Calls Tryz.prog 99 #[cf t s so d] w fun r w' => r = .returned (i64 Q) ∧ Below w.heap.size w w' := by
 obtain ⟨q, hq⟩ : ∃ q, s * (t + 1) = q := ⟨_, rfl⟩
 obtain ⟨z, hz⟩ : ∃ z, bM t so d = z := ⟨_, rfl⟩
 have b := h.bd
 have hQ := h.q
 have hqN := h.qN
 rw [hz] at b hQ
 rw [hq] at hQ hqN
 have e2 : IntKind.i64.wrap (IntKind.i64.wrap (q + z) + 2) = (Q : Int) := by have a := IntWalk.i64_in (q + z) (by omega); rw [a, IntWalk.i64_in _ (by omega)]; omega
 have E2 := zIc e2
 have HC := zIc (fun W => zFS h q hq W)
 have hm := fun W => zGk h W
 rw [hz] at hm
 have HM := zIc hm
 clear hm e2 hQ hqN b hq hz h
 go_enter Tryz.func99, Tryz.ntmps99
 go_wp2_with fail
 refine zAN ((0, true) :: (2, true) :: (1, false) :: (3, false) :: (4, true) :: (5, true) :: (6, true) :: []) (by kernel_rfl) (by kernel_rfl) (by kernel_rfl) (by decide) (fun _ _ _ _ _ h => h) (fun hHeld => ?_)
 repeat (first
  | (refine zAC (v := ?_) rfl ?_ ?_ ?_; rotate_left 1; rfl; (focus (intro wS hSw; have hk := zAL hSw; go_simp; first | done | with_reducible rfl)); (try simp only [Act.put, qset]))
  | (refine zAB rfl ?_ ?_; rfl; (try simp only [Act.put, qset]))
  | (refine zAG rfl (fun K hK => ?_); go_simp; (try (first | (go_at_call 131; refine (HC.out _).mono ?_; rintro e w' ⟨rfl, hb'⟩) | (go_at_call 132; refine (HM.out _).mono ?_; rintro e w' ⟨rfl, hb'⟩))); (try go_wp2_with fail); refine hK.out _ _ ?_ ?_; (focus (first | exact zAE hHeld hb' | exact zAA hHeld _ | exact hHeld)); (try clear hb'); clear hHeld hK K; intro hHeld; (try simp only [Act.put, qset])))
 first | refine zAJ ?_ | skip
 go_wp2
 go_ret
 exact ⟨zAw E2.out, zAE (zAA (Below.refl _ _) _) hHeld⟩
theorem zHL (h : BN t s so d N Q) (w : World) :
  Calls Tryz.prog 74 #[cf t s so d] w fun r w' => r = .returned (i64 Q) ∧ Below w.heap.size w w' := by
 go_enter Tryz.func74, Tryz.ntmps74
 go_wp2_with fail
 refine (zII h _).mono ?_
 rintro r w1 ⟨rfl, hb⟩
 have HB := zIc (zAE (zAA (Below.refl _ _) _) hb)
 clear hb
 go_wp2_with fail
 go_ret
 exact ⟨rfl, HB.out⟩
theorem zHS (h : BN t s so d N Q) (m G : Nat) (hm2 : m ≤ 1000000) (hG : (m + 1) * (4 * N + 10) = G) (w : World) :
  Calls Tryz.prog 75 #[cf t s so d, .int .i64 m] w fun r w' => r = .returned (i64 G) ∧ Below w.heap.size w w' := by
 have b := h.bd
 have hG2 : G ≤ 1000001 * 16394 := by rw [← hG]; exact Nat.mul_le_mul (by omega) (by omega)
 have e0 : ((m : Int) + 1) * (4 * (N : Int) + 10) = (G : Int) := by rw [← hG]; push_cast; rfl
 have e1 : wrap64 (((m : Int) + 1) * (4 * (N : Int) + 10)) = (G : Int) := by
  rw [e0]
  unfold wrap64
  omega
 have E1 := zIc e1
 have HC := zIc (fun W => zBD t s so d N W h.lay)
 have hN : N ≤ 4096 := by omega
 clear hG hG2 h e1 e0 b
 go_enter Tryz.func75, Tryz.ntmps75
 go_wp2_with fail
 refine (HC.out _).mono ?_
 rintro r w1 ⟨rfl, hb⟩
 have HB := zIc (zAE (zAA (Below.refl _ _) _) hb)
 clear hb
 go_wp2_with fail
 go_ret
 exact ⟨zAw E1.out, HB.out⟩
def bL (N Q T : Nat) : Nat := max Q ((T + 1) * (4 * N + 10))
theorem bL_le {t s so d : Int} {N Q T : Nat} (h : BN t s so d N Q) (hT : t = (T : Int)) : bL N Q T ≤ 65 * 16394 := by
 have b := h.bd
 have h1 : (T + 1) * (4 * N + 10) ≤ 65 * 16394 := Nat.mul_le_mul (by omega) (by omega)
 unfold bL
 omega
theorem zEx (h : BN t s so d N Q) (T W' : Nat) (hT : t = (T : Int)) (hW : T * bL N Q T + 1 = W') (w : World) :
  Calls Tryz.prog 37 #[cf t s so d] w fun r w' => r = .returned (i64 W') ∧ Below w.heap.size w w' := by
 have b := h.bd
 have hb := bL_le h hT
 subst hT
 obtain ⟨G, hG⟩ : ∃ G, (T + 1) * (4 * N + 10) = G := ⟨_, rfl⟩
 have HP := zIc (fun W => zHL h W)
 have HGT := zIc (fun W => zHS h T G (by omega) hG W)
 unfold bL at hW hb
 rw [hG] at hW hb
 have h64 : T * max Q G ≤ 64 * (65 * 16394) := Nat.mul_le_mul (by omega) hb
 obtain ⟨P, hP⟩ : ∃ P, T * max Q G = P := ⟨_, rfl⟩
 rw [hP] at h64 hW
 have E1 := zIc (fun (hh : Q ≤ G) => show IntKind.i64.wrap ((T : Int) * (G : Int)) = (P : Int) from by rw [show (T : Int) * (G : Int) = (P : Int) from by rw [← hP, Nat.max_eq_right hh]; push_cast; rfl]; exact IntWalk.i64_in _ (by omega))
 have E2 := zIc (fun (hh : G ≤ Q) => show IntKind.i64.wrap ((T : Int) * (Q : Int)) = (P : Int) from by rw [show (T : Int) * (Q : Int) = (P : Int) from by rw [← hP, Nat.max_eq_left hh]; push_cast; rfl]; exact IntWalk.i64_in _ (by omega))
 have E3 : Hid (IntKind.i64.wrap ((P : Int) + 1) = (W' : Int)) := by show _ = _; rw [IntWalk.i64_in _ (by omega)]; omega
 have E4 := zIc (show IntKind.i64.wrap ((T : Int) * max (Q : Int) (G : Int)) = (P : Int) from by rw [show (T : Int) * max (Q : Int) (G : Int) = (P : Int) from by rw [show max (Q : Int) (G : Int) = ((max Q G : Nat) : Int) by omega, ← hP]; exact (Int.natCast_mul T (max Q G)).symm]; exact IntWalk.i64_in _ (by omega))
 clear hG h hP b hb h64 hW
 go_enter Tryz.func37, Tryz.ntmps37
 go_wp2_with fail
 refine zAN ((0, true) :: (1, true) :: (2, true) :: (4, true) :: (5, true) :: (6, true) :: (3, false) :: (7, false) :: (8, true) :: (9, true) :: (10, true) :: (11, true) :: []) (by kernel_rfl) (by kernel_rfl) (by kernel_rfl) (by decide) (fun _ _ _ _ _ h => h) (fun hHeld => ?_)
 repeat (first
  | (refine zAC (v := ?_) rfl ?_ ?_ ?_; rotate_left 1; rfl; (focus (intro wS hSw; have hk := zAL hSw; go_simp; first | done | with_reducible rfl)); (try simp only [Act.put, qset]))
  | (refine zAB rfl ?_ ?_; rfl; (try simp only [Act.put, qset]))
  | (refine zAG rfl (fun K hK => ?_); go_simp; (try (first | (go_at_call 74; refine (HP.out _).mono ?_; rintro e w' ⟨rfl, hb'⟩) | (go_at_call 75; refine (HGT.out _).mono ?_; rintro e w' ⟨rfl, hb'⟩))); (try go_wp2_with fail); refine hK.out _ _ ?_ ?_; (focus (first | exact zAE hHeld hb' | exact zAA hHeld _ | exact hHeld)); (try clear hb'); clear hHeld hK K; intro hHeld; (try simp only [Act.put, qset])))
 first | refine zAJ ?_ | skip
 all_goals
  have HB := zIc (zAE (zAA (Below.refl _ _) _) hHeld)
  clear hHeld
  go_wp2_with fail
  all_goals
   go_ret
   exact ⟨zAw (by first | (rw [E4.out]; exact E3.out) | (rw [E1.out (by omega)]; exact E3.out) | (rw [E2.out (by omega)]; exact E3.out)), HB.out⟩
end
def IsI (w : World) (a : Option Addr) (E : List Int) : Prop :=
 0 < E.length → ∃ g off, a = some ⟨g, off, none⟩ ∧ g < w.heap.size ∧ ∀ i, i < E.length → w.cell? ⟨g, off + i, none⟩ = some (i64 (E.getD i 0))
theorem IsI.later {w w' : World} {a : Option Addr} {R : List Int} (h : IsI w a R) (e : Below w.heap.size w w') : IsI w' a R := fun hp => by
 obtain ⟨g, off, h1, h2, h3⟩ := h hp
 exact ⟨g, off, h1, Nat.lt_of_lt_of_le h2 e.size, fun i hi => (e.cell (p := ⟨g, off + i, none⟩) h2).trans (h3 i hi)⟩
def gGo : Int → Int → List Int → Int × Int
 | l, g, [] => (l, g)
 | l, g, e :: E => gGo e (max g (e - l)) E
theorem zCA (x : Int) : ∀ (E : List Int) (l g : Int), gGo l g (E ++ [x]) = (x, max (gGo l g E).2 (x - (gGo l g E).1))
 | [], l, g => rfl
 | e :: E, l, g => by rw [List.cons_append, gGo, gGo, zCA x E]
def gapsV (E : List Int) (all : Int) : Int := max (gGo (-1) (-9223372036854775808) E).2 (all - 1 - (gGo (-1) (-9223372036854775808) E).1)
theorem zHu {B : Int} (hB : 0 ≤ B) : ∀ (E : List Int) (l g : Int), (∀ e ∈ E, -B ≤ e ∧ e ≤ B) → -B - 1 ≤ l → l ≤ B → -9223372036854775808 ≤ g → g ≤ 2 * B + 1 → (-B - 1 ≤ (gGo l g E).1 ∧ (gGo l g E).1 ≤ B ∧ -9223372036854775808 ≤ (gGo l g E).2 ∧ (gGo l g E).2 ≤ 2 * B + 1)
 | [], l, g, _, h1, h2, h3, h4 => ⟨h1, h2, h3, h4⟩
 | e :: E, l, g, h, h1, h2, h3, h4 => by
  have he := h e List.mem_cons_self
  rw [gGo]
  exact zHu hB E e _ (fun x hx => h x (List.mem_cons_of_mem _ hx)) (by omega) he.2 (by omega) (by omega)
theorem zDv (w : World) (a : Option Addr) (cap : Nat) (E : List Int) (all : Int) (h : IsI w a E) (hc : E.length ≤ cap) (hn : E.length ≤ 1000000) (hE : ∀ e ∈ E, -1000000000 ≤ e ∧ e ≤ 1000000000) (ha : 0 ≤ all ∧ all ≤ 1000000000) :
  Calls Tryz.prog 36 #[.slice a E.length cap, .int .i64 all] w fun r w' => r = .returned (i64 (gapsV E all)) ∧ Below w.heap.size w w' := by
 have HI := zIc h
 have HE := zIc hE
 clear h hE
 obtain ⟨n, hn2⟩ : ∃ n, E.length = n := ⟨_, rfl⟩
 have HN := zIc hn2
 rw [hn2] at hc hn ⊢
 clear hn2
 go_enter Tryz.func36, Tryz.ntmps36
 go_wp2_with fail
 have HB0 := zIc (Below.refl w.heap.size w)
 go_loopw [5, 6, 11] (fun lv gv iw wr => ∃ (i : Nat) (l g : Int), i ≤ n ∧ lv = .int .i64 l ∧ gv = .int .i64 g ∧ iw = .int .i64 i ∧ Hid (Below w.heap.size w wr) ∧ Hid (gGo (-1) (-9223372036854775808) (E.take i) = (l, g))) (fun _ _ iw _ => n - (RowKit.intOf iw).toNat)
 case atStart => exact ⟨0, -1, -9223372036854775808, Nat.zero_le _, rfl, rfl, rfl, HB0, by rw [List.take_zero]; rfl⟩
 case round =>
  clear HB0
  obtain ⟨i, l, g, hi, rfl, rfl, rfl, HB, HG⟩ := hrel
  have hbd := zHu (B := 1000000000) (by decide) (E.take i) (-1) (-9223372036854775808) (fun e he => HE.out e (List.mem_of_mem_take he)) (by decide) (by decide) (by decide) (by decide)
  rw [HG.out] at hbd
  obtain ⟨b1, b2, b3, b4⟩ := hbd
  simp only at b1 b2 b3 b4
  rcases Nat.lt_or_ge i n with hil | hil
  ·have hil' : (i : Int) < (n : Int) := by omega
   obtain ⟨gb, off, rfl, hgb, hcell⟩ := HI.out (by rw [HN.out]; omega)
   have c0 := (HB.out.cell (p := ⟨gb, off + i, none⟩) hgb).trans (hcell i (by rw [HN.out]; exact hil))
   have hd : E[i]? = some (E.getD i 0) := by rw [List.getD_eq_getElem?_getD, List.getElem?_eq_getElem (by rw [HN.out]; exact hil)]; rfl
   have he := HE.out _ (List.mem_of_getElem? hd)
   have HT : Hid (gGo (-1) (-9223372036854775808) (E.take (i + 1)) = (E.getD i 0, max g (E.getD i 0 - l))) := by
    show _ = _
    rw [List.take_add_one, hd]
    show gGo _ _ (E.take i ++ [E.getD i 0]) = _
    rw [zCA, HG.out]
   clear hd hcell
   generalize E.getD i 0 = x at c0 he HT
   have hw : IntKind.i64.wrap (x - l) = x - l := IntWalk.i64_in _ (by omega)
   go_wp2_with fail
   all_goals
    go_roundw
    case rel => exact ⟨i + 1, x, _, by omega, rfl, rfl, by go_num, HB, HT.out.trans (by first | rfl | (congr 1; done) | (congr 1; omega))⟩
    case measure => first | omega | (simp [RowKit.intOf]; done) | (simp [RowKit.intOf]; omega)
  ·obtain rfl : i = n := by omega
   have hnl : ¬ (i : Int) < (i : Int) := by omega
   have hG := HG.out
   rw [List.take_of_length_le (by rw [HN.out]; exact Nat.le_refl _)] at hG
   have HV : Hid (gapsV E all = max g (all - 1 - l)) := by show _ = _; unfold gapsV; rw [hG]
   clear hG HG
   go_wp2_with fail
   all_goals
    go_ret
    refine ⟨zAw ?_, HB.out⟩
    first | (rw [HV.out]; done) | (rw [HV.out]; omega)
end
section
open Go.RowKit
theorem IsI.two (W : World) (x y : Int) (T : TypeId) : IsI (W.alloc (.cells #[i64 x, i64 y] T)) (some ⟨W.heap.size, 0, none⟩) [x, y] := fun _ => ⟨W.heap.size, 0, rfl, by simp, fun i hi => by
 match i, hi with
 | 0, _ => simp
 | 1, _ => simp
 | n + 2, hi => exact absurd hi (by simp only [List.length_cons, List.length_nil]; omega)⟩
end
section
open Go.RowKit
def minI : Int := -9223372036854775808
def eLast (E : List Int) : Int := (gGo (-1) minI E).1
def eMost (E : List Int) : Int := (gGo (-1) minI E).2
theorem zFF (E : List Int) (x : Int) : eLast (E ++ [x]) = x := by unfold eLast; rw [zCA]
theorem zFX (E : List Int) (x : Int) : eMost (E ++ [x]) = max (eMost E) (x - eLast E) := by unfold eMost eLast; rw [zCA]
structure Win (pl : Nat → Pl) (t put b : Nat) (Y : Yd) (E : List Int) (i : Nat) : Prop where
 st : ∃ s tu, Stretch pl t put Y s tu ∧ eLast E + 1 + (tot s t : Nat) = (i : Int)
 most : eMost E ≤ ((t * b + 1 : Nat) : Int)
 rng : ∀ e ∈ E, 0 ≤ e ∧ e < (i : Int)
 len : E.length ≤ i
section
variable {pl : Nat → Pl} {t n N put b i : Nat} {Y : Yd} {E : List Int}
theorem Win.start (h : ∀ (k : Nat) (a : Wk × Nat), Y.ts[k]? ≠ some (some a)) : Win pl t put b Y [] 0 :=
 ⟨⟨_, _, Stretch.none h, by rw [zBa (fun _ => rfl)]; rfl⟩, by show minI ≤ _; unfold minI; omega, (fun e he => by cases he), Nat.le_refl _⟩
theorem Win.call (h : Win pl t put b Y E i) {w : Nat} {kd e x s : Int} {T : Wk} (hw : Y.ts[w]? = some .none) (hT : OLeft (pl w) T Y.C put 0 0) : Win pl t put b (Y.call w kd e x s T) E i := by
 obtain ⟨s', tu, h1, h2⟩ := h.st
 exact ⟨⟨s', tu, h1.call hw hT, h2⟩, h.most, h.rng, h.len⟩
theorem Win.step (h : Win pl t put b Y E i) (ho : YOk pl t n Y) (hN : ∀ k, (pl k).N = N) {w : Nat} {T : Wk} {j : Nat} {z : Int} (hw : Y.ts[w]? = some (some (T, j))) (ha : T.ask Y.C z) (hf : ∀ j, 0 ≤ Y.C.getD j 0) (hp : (T.step (pl w) Y.C Y.now z).ph = 0) :
  Win pl t put b (Y.step (pl w) w T j z) E (i + 1) := by
 obtain ⟨s', tu, h1, h2⟩ := h.st
 obtain ⟨tu', h3, h4⟩ := h1.step ho hN hw ha hf hp
 exact ⟨⟨_, tu', h3, by rw [h4]; omega⟩, h.most, fun e he => by have := h.rng e he; omega, Nat.le_succ_of_le h.len⟩
theorem Win.ended (h : Win pl t put b Y E i) (ho : YOk pl t n Y) (hN : ∀ k, (pl k).N = N) (ht : 1 ≤ t) (h1 : put ≤ b) (h2 : t * (4 * N + 10) ≤ b) {w : Nat} {T : Wk} {j : Nat} {z : Int} (hw : Y.ts[w]? = some (some (T, j))) (ha : T.ask Y.C z) (hf : ∀ j, 0 ≤ Y.C.getD j 0) :
  Win pl t put b (Y.step (pl w) w T j z) (E ++ [(i : Int)]) (i + 1) := by
 obtain ⟨s', tu, h3, h4⟩ := h.st
 have h5 := h3.short ho hN ht h1 h2
 have h6 := h.most
 refine ⟨⟨_, _, h3.ended ho hN hw ha hf, by rw [zFF, zBa (fun _ => rfl)]; omega⟩, by rw [zFX]; omega, fun e he => ?_, by rw [List.length_append]; exact Nat.succ_le_succ h.len⟩
 rcases List.mem_append.1 he with he | he
 ·have := h.rng e he
  omega
 ·cases List.mem_singleton.1 he
  omega
theorem Win.out (h : Win pl t put b Y E i) (ho : YOk pl t n Y) (hN : ∀ k, (pl k).N = N) (ht : 1 ≤ t) (h1 : put ≤ b) (h2 : t * (4 * N + 10) ≤ b) : gapsV E i ≤ ((t * b + 1 : Nat) : Int) := by
 obtain ⟨s', tu, h3, h4⟩ := h.st
 have h5 := h3.short ho hN ht h1 h2
 have h6 := h.most
 show max (eMost E) ((i : Int) - 1 - eLast E) ≤ _
 omega
end
section
variable {W w w' : World} {l l' : List Thing} {B : YB} {Y Y' : Yd} {J J' : Nat → Nat} {n N : Nat}
theorem YdL.step (h : YdL W w l B N Y J n) (hn : n < 1000000) (k : Nat) (T : Wk) (i : Nat) (hk : Y.ts[k]? = some (some (T, i))) :
  Calls Tryz.prog 35 #[pt B.yb, i64 k] w fun r w' => r = .returned (.bool true) ∧ ∃ l' z, T.ask Y.C z ∧ YdL W w' l' B N (Y.step (plOf B N k) k T i z) J (n + 1) ∧ YGo Y (Y.step (plOf B N k) k T i z) l l' J J := by
 obtain ⟨v, vd, X, hA⟩ := h.h
 refine (zCI hA h.ok hn hk).mono ?_
 rintro r w' ⟨rfl, z, hz, l', hl', hs⟩
 exact ⟨rfl, l', z, hz, h.next hn (.step k T i z hk hz) hl', YStay.go (J' := J) hs hk (zGH hk)⟩
theorem YdL.callIdle (h : YdL W w l B N Y J n) (hn : n < 1000000) (k : Nat) (hq : Y.ts[k]? = some none) (take : Bool) {kd : Int} (hkd : kdI take = kd) (e x s : Int) (he : e = 0 ∨ e = 1) (x0 : 0 ≤ x) (x1 : x ≤ 18446744073709551615) :
  Calls Tryz.prog 34 #[pt B.yb, i64 k, callV kd e x s] w fun r w' => r = .returned (i64 0) ∧ ∃ l' J', YdL W w' l' B N (Y.call k kd e x s (wkB B N k take e x s)) J' (n + 1) ∧ YGo Y (Y.call k kd e x s (wkB B N k take e x s)) l l' J J' := by
 have hkT : k < B.T := by have := (List.getElem?_eq_some_iff.1 hq).1; have := h.ok.len; omega
 refine (h.call hn k hkT take hkd e x s he x0 x1).mono ?_
 rintro r w' ⟨l', J', Y', h1, h2, ⟨_, _, a, ha⟩ | ⟨rfl, _, rfl⟩⟩
 ·rw [hq] at ha
  cases ha
 ·exact ⟨rfl, l', J', h1, h2⟩
theorem YdL.busyOr (h : YdL W w l B N Y J n) {k : Nat} (hk : k < B.T) : (∃ T i, Y.ts[k]? = some (some (T, i))) ∨ Y.ts[k]? = some none := by
 cases hq : Y.ts[k]? with
 | none =>
  rw [List.getElem?_eq_none_iff] at hq
  have := h.ok.len
  omega
 | some a =>
  cases a with
  | none => exact .inr rfl
  | some a => exact .inl ⟨a.1, a.2, rfl⟩
theorem YdL.turnRest (h : YdL W w l B N Y J n) {j : Nat} {A A' : Thing} (hr : Rest Y l J j A) (hl : Hold W w' (l.set j A')) : YdL W w' (l.set j A') B N Y J n ∧ Rest Y (l.set j A') J j A' :=
 ⟨⟨h.h.other hl (fun i C hi hf => by rw [List.getElem?_set_ne (fun e => by subst e; exact hf hr.free)]; exact hi), h.ok, h.len, h.cf, h.hT⟩, List.getElem?_set_self (List.getElem?_eq_some_iff.1 hr.at').1, hr.free⟩
theorem Rest.set {A : Thing} (h : Rest Y l J n A) {j : Nat} (hj : j ≠ n) (A' : Thing) : Rest Y (l.set j A') J n A := ⟨by rw [List.getElem?_set_ne hj]; exact h.at', h.free⟩
theorem YdL.fit (h : YdL W w l B N Y J n) : ∀ j, 0 ≤ Y.C.getD j 0 := fun j => (h.h.fit j).1
theorem zDt {P : Pl} {k : Nat} {T : Wk} {i : Nat} {z : Int} (hk : Y.ts[k]? = some (some (T, i))) : ((T.step P Y.C Y.now z).ph = 0 ∧ (Y.step P k T i z).ts[k]? = some (some (T.step P Y.C Y.now z, i))) ∨ (T.step P Y.C Y.now z).ph ≠ 0 ∧ (Y.step P k T i z).ts[k]? = some none := by
 have hl := (List.getElem?_eq_some_iff.1 hk).1
 by_cases hp : (T.step P Y.C Y.now z).ph = 0
 ·refine .inl ⟨hp, ?_⟩
  show (if _ then _ else _ : List (Option (Wk × Nat)))[k]? = _
  rw [if_pos hp]
  exact List.getElem?_set_self hl
 ·refine .inr ⟨hp, ?_⟩
  show (if _ then _ else _ : List (Option (Wk × Nat)))[k]? = _
  rw [if_neg hp]
  exact List.getElem?_set_self hl
end
structure Aq where
 take : Bool
 right : Bool
 value : Int
 start : Int
structure AtAq (w : World) (tb o : Nat) (x : Aq) : Prop where
 c0 : w.cell? ⟨tb, o, none⟩ = some (.bool x.take)
 c1 : w.cell? ⟨tb, o + 1, none⟩ = some (.bool x.right)
 c2 : w.cell? ⟨tb, o + 2, none⟩ = some (u64 x.value)
 c3 : w.cell? ⟨tb, o + 3, none⟩ = some (i64 x.start)
def IsAqs (w : World) (a0 : Option Addr) (len cap tb off : Nat) (X : Nat → Aq) : Prop :=
 ∀ i, i < len → a0 = some ⟨tb, off, none⟩ ∧ len ≤ cap ∧ tb < w.heap.size ∧ AtAq w tb (off + i * 4) (X i) ∧ 0 ≤ (X i).value ∧ (X i).value ≤ 18446744073709551615
theorem IsAqs.later {w w' : World} {a : Option Addr} {len cap tb off : Nat} {X : Nat → Aq} (h : IsAqs w a len cap tb off X) (e : Below w.heap.size w w') : IsAqs w' a len cap tb off X := fun i hi => by
 obtain ⟨h1, h2, h3, h4, h5⟩ := h i hi
 have k : ∀ j, w'.cell? ⟨tb, j, none⟩ = w.cell? ⟨tb, j, none⟩ := fun j => e.cell (p := ⟨tb, j, none⟩) h3
 exact ⟨h1, h2, Nat.lt_of_lt_of_le h3 e.size, ⟨(k _).trans h4.c0, (k _).trans h4.c1, (k _).trans h4.c2, (k _).trans h4.c3⟩, h5⟩
def IsPk (w : World) (a0 : Option Addr) (len cap tb off : Nat) (X : Nat → Int) : Prop :=
 ∀ i, i < len → a0 = some ⟨tb, off, none⟩ ∧ len ≤ cap ∧ tb < w.heap.size ∧ w.cell? ⟨tb, off + i, none⟩ = some (i64 (X i))
theorem IsPk.later {w w' : World} {a : Option Addr} {len cap tb off : Nat} {X : Nat → Int} (h : IsPk w a len cap tb off X) (e : Below w.heap.size w w') : IsPk w' a len cap tb off X := fun i hi => by
 obtain ⟨h1, h2, h3, h4⟩ := h i hi
 exact ⟨h1, h2, Nat.lt_of_lt_of_le h3 e.size, (e.cell (p := ⟨tb, off + i, none⟩) h3).trans h4⟩
theorem zAl {u : Int} {T : Nat} (u0 : 0 ≤ u) (hT : 1 ≤ T) : ∃ k : Nat, k < T ∧ u.tmod T = (k : Int) := by
 refine ⟨(u % T).toNat, ?_, ?_⟩
 ·have := Int.emod_nonneg u (show (T : Int) ≠ 0 by omega)
  have := Int.emod_lt_of_pos u (show 0 < (T : Int) by omega)
  omega
 ·rw [Int.tmod_eq_emod_of_nonneg u0]
  have := Int.emod_nonneg u (show (T : Int) ≠ 0 by omega)
  omega
end
end Go.Proofs.YtebgjfhaolgcjaaGreat
