/- Contracts and plain lemmas that these laws need. No condition. -/

import Derived.Test.YtpfjommkjkbonabGreatQE1
import Derived.Test.YtpfjommkjkbonabGreatQE10
import Derived.Test.YtpfjommkjkbonabGreatQE12
namespace Go.Proofs.YtpfjommkjkbonabGreat
set_option linter.unusedVariables false
set_option maxHeartbeats 8000000
set_option maxRecDepth 100000
section
open Go.RowKit
structure CR (N : Nat) (P : Int → Int → Prop) (fl : Bool) (f : Int → Int) (C C' : List Int) : Prop where
 len : C'.length = C.length
 word : ∀ j, j < N → Wr P fl (C.getD j 0) (C'.getD j 0)
 val : ∀ j, j < N → C.getD j 0 = 0 ∨ C'.getD (N + j) 0 = f (C.getD (N + j) 0)
 rest : ∀ j, 2 * N ≤ j → C'.getD j 0 = C.getD j 0
 big : 2 * N ≤ C.length
structure CKp (N : Nat) (f : Int → Int) (C C' D D' : List Int) : Prop where
 val : ∀ j, j < N → C'.getD (N + j) 0 = f (C.getD (N + j) 0) → D'.getD (N + j) 0 = f (D.getD (N + j) 0)
 used : ∀ j, j < N → C.getD j 0 ≠ 0 → D.getD j 0 ≠ 0
section
variable {N : Nat} {P P2 : Int → Int → Prop} {fl : Bool} {f : Int → Int} {C C' : List Int}
theorem CR.more (h : CR N P fl f C C') (hP : ∀ a b, P a b → P2 a b) : CR N P2 fl f C C' := ⟨h.len, fun j hj => (h.word j hj).more hP, h.val, h.rest, h.big⟩
theorem CKp.refl (N : Nat) (f : Int → Int) (C C' : List Int) : CKp N f C C' C C' := ⟨fun _ _ h => h, fun _ _ h => h⟩
theorem CR.setRest (h : CR N P fl f C C') {q : Nat} (hq : 2 * N ≤ q) (x : Int) : CR N P fl f (C.set q x) (C'.set q x) ∧ CKp N f C C' (C.set q x) (C'.set q x) := by
 have a : ∀ (D : List Int) (j : Nat), j < 2 * N → (D.set q x).getD j 0 = D.getD j 0 := fun D j hj => zAF _ (by omega)
 refine ⟨⟨by rw [List.length_set, List.length_set]; exact h.len, fun j hj => ?_, fun j hj => ?_, fun j hj => ?_, by rw [List.length_set]; exact h.big⟩, fun j hj hh => ?_, fun j hj hh => ?_⟩
 ·rw [a _ _ (by omega), a _ _ (by omega)]
  exact h.word j hj
 ·rw [a _ _ (by omega), a _ _ (by omega), a _ _ (by omega)]
  exact h.val j hj
 ·by_cases e : q = j
  ·subst e
   rcases Nat.lt_or_ge q C.length with hl | hl
   ·rw [zAL _ hl, zAL _ (by rw [h.len]; exact hl)]
   ·rw [List.set_eq_of_length_le (by rw [h.len]; exact hl), List.set_eq_of_length_le hl]
    exact h.rest q hj
  ·rw [zAF _ e, zAF _ e]
   exact h.rest j hj
 ·rw [a _ _ (by omega), a _ _ (by omega)]
  exact hh
 ·rw [a _ _ (by omega)]
  exact hh
theorem CR.setVal (h : CR N P fl f C C') {j0 : Nat} (hj0 : j0 < N) (x : Int) : CR N P fl f (C.set (N + j0) x) (C'.set (N + j0) (f x)) ∧ CKp N f C C' (C.set (N + j0) x) (C'.set (N + j0) (f x)) := by
 have hb := h.big
 have hl := h.len
 have hv : ∀ j, j < N → C'.getD (N + j) 0 = f (C.getD (N + j) 0) ∨ j = j0 → (C'.set (N + j0) (f x)).getD (N + j) 0 = f ((C.set (N + j0) x).getD (N + j) 0) := fun j hj hh => by
  by_cases e : j = j0
  ·subst e
   rw [zAL _ (by omega), zAL _ (by omega)]
  ·rw [zAF _ (by omega), zAF _ (by omega)]
   exact hh.resolve_right e
 refine ⟨⟨by rw [List.length_set, List.length_set]; exact h.len, fun j hj => ?_, fun j hj => ?_, fun j hj => ?_, by rw [List.length_set]; exact h.big⟩, fun j hj hh => hv j hj (.inl hh), fun j hj hh => ?_⟩
 ·rw [zAF _ (by omega), zAF _ (by omega)]
  exact h.word j hj
 ·by_cases e : j = j0
  ·exact .inr (hv j hj (.inr e))
  ·rw [zAF (j := j) _ (by omega)]
   exact (h.val j hj).imp id (fun q => hv j hj (.inl q))
 ·rw [zAF _ (by omega), zAF _ (by omega)]
  exact h.rest j hj
 ·rw [zAF _ (by omega)]
  exact hh
theorem CR.setWord (h : CR N P fl f C C') {j0 : Nat} (hj0 : j0 < N) {x x' : Int} (hx : Wr P fl x x') (h0 : x ≠ 0) (hv : C'.getD (N + j0) 0 = f (C.getD (N + j0) 0)) : CR N P fl f (C.set j0 x) (C'.set j0 x') ∧ CKp N f C C' (C.set j0 x) (C'.set j0 x') := by
 have hb := h.big
 have hl := h.len
 refine ⟨⟨by rw [List.length_set, List.length_set]; exact h.len, fun j hj => ?_, fun j hj => ?_, fun j hj => ?_, by rw [List.length_set]; exact h.big⟩, fun j hj hh => ?_, fun j hj hh => ?_⟩
 ·by_cases e : j = j0
  ·subst e
   rw [zAL _ (by omega), zAL _ (by omega)]
   exact hx
  ·rw [zAF _ (by omega), zAF _ (by omega)]
   exact h.word j hj
 ·rw [zAF (j := N + j) _ (by omega), zAF (j := N + j) _ (by omega)]
  by_cases e : j = j0
  ·subst e
   exact .inr hv
  ·rw [zAF (j := j) _ (by omega)]
   exact h.val j hj
 ·rw [zAF _ (by omega), zAF _ (by omega)]
  exact h.rest j hj
 ·rw [zAF (j := N + j) _ (by omega), zAF (j := N + j) _ (by omega)]
  exact hh
 ·by_cases e : j = j0
  ·subst e
   rw [zAL _ (by omega)]
   exact h0
  ·rw [zAF _ (by omega)]
   exact hh
end
structure TkR (P : Int → Int → Prop) (k k' : Tk) : Prop where
 t : k'.t = k.t
 s : k'.s = k.s
 so : k'.so = k.so
 d : k'.d = k.d
 who : k'.who = k.who
 steps : k'.steps = k.steps
 ph : k'.ph = k.ph
 seen : (k.so < 3 → k'.seen = k.seen) ∧ (3 ≤ k.so → k.steps = 0 ∨ P k.seen k'.seen)
 st : k.ph = 1 → P k.lo k'.lo ∧ P k.hi k'.hi
structure Tm (P : Int → Int → Prop) (so now now' : Int) : Prop where
 pm : PM P
 eq : so < 3 → ∀ x, P x x
 now : 3 ≤ so → P (low now) (low now') ∧ low now < 16777215 ∧ low now' < 16777215
section
variable {N : Nat} {P : Int → Int → Prop} {fl : Bool} {f : Int → Int} {C C' : List Int} {nb : Nat} {k k' : Tk} {now now' : Int}
theorem TkR.more {P2 : Int → Int → Prop} (h : TkR P k k') (hP : ∀ a b, P a b → P2 a b) : TkR P2 k k' :=
 ⟨h.t, h.s, h.so, h.d, h.who, h.steps, h.ph, ⟨h.seen.1, fun hs => (h.seen.2 hs).imp id (hP _ _)⟩, fun hp => ⟨hP _ _ (h.st hp).1, hP _ _ (h.st hp).2⟩⟩
theorem TkR.fin (h : TkR P k k') {lo hi lo' hi' : Int} (hlo : P lo lo') (hhi : P hi hi') (hc : (0 ≤ lo ∧ lo ≤ hi ∧ hi < 16777215) ↔ (0 ≤ lo' ∧ lo' ≤ hi' ∧ hi' < 16777215)) : TkR P (Proofs.YtpfjommkjkbonabGreat.fin k lo hi) (Proofs.YtpfjommkjkbonabGreat.fin k' lo' hi') := by
 unfold Proofs.YtpfjommkjkbonabGreat.fin
 by_cases c : 0 ≤ lo ∧ lo ≤ hi ∧ hi < 16777215
 ·rw [if_pos c, if_pos (hc.1 c)]
  exact ⟨h.t, h.s, h.so, h.d, h.who, h.steps, rfl, h.seen, fun _ => ⟨hlo, hhi⟩⟩
 ·rw [if_neg c, if_neg (fun q => c (hc.2 q))]
  exact ⟨h.t, h.s, h.so, h.d, h.who, h.steps, rfl, h.seen, fun hp => absurd hp (by show ¬ (2 : Int) = 1; decide)⟩
theorem TkR.step (h : TkR P k k') (hC : CR N P fl f C C') (hk : k.Ok nb N C) (hk' : k'.Ok nb N C') (hT : Tm P k.so now now') (hn : 2 * N ≤ nb) (n0 : 0 ≤ now) (n0' : 0 ≤ now') :
  TkR P (stp nb k C now).1 (stp nb k' C' now').1 ∧ CR N P fl f (stp nb k C now).2.1 (stp nb k' C' now').2.1 ∧ CKp N f C C' (stp nb k C now).2.1 (stp nb k' C' now').2.1 := by
 obtain ⟨t, s, so, d, who, steps, seen, ph, lo, hi⟩ := k
 obtain ⟨t', s', so', d', who', steps', seen', ph', lo', hi'⟩ := k'
 obtain ⟨h1, h2, h3, h4, h5, h6, h7, h8, h9⟩ := h
 simp only at h1 h2 h3 h4 h5 h6 h7 h8 h9
 subst h1 h2 h3 h4 h5 h6 h7
 obtain ⟨h81, h82⟩ := h8
 have n0 : ∀ {Q : Prop}, (3 : Int) ≤ 0 → Q := fun q => absurd q (by decide)
 have n1 : ∀ {Q : Prop}, (3 : Int) ≤ 1 → Q := fun q => absurd q (by decide)
 have n2 : ∀ {Q : Prop}, (3 : Int) ≤ 2 → Q := fun q => absurd q (by decide)
 have same : ∀ q, nb ≤ q → C'.getD q 0 = C.getD q 0 := fun q hq => hC.rest q (by omega)
 have hss := hk.s0
 have hee := hk.e0
 have hee' := hk'.e0
 have base : ∀ {st sn sn' : Int}, (so' < 3 → sn' = sn) → (3 ≤ so' → st = 0 ∨ P sn sn') → TkR P ⟨t', s', so', d', who', st, sn, 0, lo, hi⟩ ⟨t', s', so', d', who', st, sn', 0, lo', hi'⟩ := fun h1 h2 => ⟨rfl, rfl, rfl, rfl, rfl, rfl, rfl, ⟨h1, h2⟩, fun hp => absurd hp (by show ¬ (0 : Int) = 1; decide)⟩
 unfold stp
 simp only
 by_cases hp : ph' = 0
 ·subst hp
  rw [if_pos rfl, if_pos rfl]
  by_cases s0 : so' = 0
  ·subst s0
   have he := hT.eq (show (0 : Int) < 3 by decide)
   rw [if_pos rfl, if_pos rfl, same nb (Nat.le_refl _)]
   exact ⟨(base h81 (fun q => n0 q)).fin (he _) (he _) Iff.rfl, hC.setRest hn _⟩
  ·rw [if_neg s0, if_neg s0]
   by_cases s1 : so' = 1
   ·subst s1
    have he := hT.eq (show (1 : Int) < 3 by decide)
    have hse := h81 (show (1 : Int) < 3 by decide)
    subst hse
    rw [if_pos rfl, if_pos rfl]
    split
    ·rw [same _ (Nat.le_add_right _ _)]
     exact ⟨base (fun _ => rfl) (fun q => n1 q), hC, CKp.refl _ _ _ _⟩
    ·split
     ·exact ⟨⟨rfl, rfl, rfl, rfl, rfl, rfl, rfl, ⟨fun _ => rfl, fun q => n1 q⟩, fun _ => ⟨he _, he _⟩⟩, hC.setRest (by omega) _⟩
     ·exact ⟨⟨rfl, rfl, rfl, rfl, rfl, rfl, rfl, ⟨fun _ => rfl, fun q => n1 q⟩, fun hp => absurd hp (by show ¬ (2 : Int) = 1; decide)⟩, hC, CKp.refl _ _ _ _⟩
   ·rw [if_neg s1, if_neg s1]
    by_cases s2 : so' = 2
    ·subst s2
     have he := hT.eq (show (2 : Int) < 3 by decide)
     have hse := h81 (show (2 : Int) < 3 by decide)
     subst hse
     rw [if_pos rfl, if_pos rfl, same nb (Nat.le_refl _)]
     split
     ·refine ⟨⟨rfl, rfl, rfl, rfl, rfl, rfl, rfl, ⟨fun _ => rfl, fun q => n2 q⟩, fun hp => absurd hp ?_⟩, hC, CKp.refl _ _ _ _⟩
      show ¬ (if low (C.getD nb 0) = 16777215 then (2 : Int) else 0) = 1
      split <;> decide
     ·split
      ·refine ⟨?_, hC, CKp.refl _ _ _ _⟩
       split
       ·exact base (fun _ => rfl) (fun q => n2 q)
       ·exact (base (fun _ => rfl) (fun q => n2 q)).fin (he _) (he _) Iff.rfl
      ·split
       ·split
        ·exact ⟨(base (fun _ => rfl) (fun q => n2 q)).fin (he _) (he _) Iff.rfl, hC.setRest hn _⟩
        ·exact ⟨base (fun _ => rfl) (fun q => n2 q), hC, CKp.refl _ _ _ _⟩
       ·exact ⟨(base (fun _ => rfl) (fun q => n2 q)).fin (he _) (he _) Iff.rfl, hC, CKp.refl _ _ _ _⟩
    ·rw [if_neg s2, if_neg s2]
     have h3 : 3 ≤ so' := by
      have := hk.o0
      have e : (0 : Int) ≤ so' := this
      omega
     obtain ⟨p1, p2, p3⟩ := hT.now h3
     have l0 : 0 ≤ low now := by unfold low; omega
     have l0' : 0 ≤ low now' := by unfold low; omega
     have hseen : P (if steps' = 0 then low now else seen) (if steps' = 0 then low now' else seen') := by
      by_cases e : steps' = 0
      ·rw [if_pos e, if_pos e]
       exact p1
      ·rw [if_neg e, if_neg e]
       exact (h82 h3).resolve_left e
     have q0 : 0 ≤ (if steps' = 0 then low now else seen) := by
      have e : (0 : Int) ≤ seen := hee
      split <;> omega
     have q0' : 0 ≤ (if steps' = 0 then low now' else seen') := by
      have e : (0 : Int) ≤ seen' := hee'
      split <;> omega
     have cmp := hT.pm _ _ _ _ p1 hseen
     generalize (if steps' = 0 then low now else seen) = a at *
     generalize (if steps' = 0 then low now' else seen') = a' at *
     have hst : steps' + 1 = 0 ∨ P a a' := .inr hseen
     split
     ·exact ⟨(base (fun q => absurd q (by omega)) (fun _ => hst)).fin hseen p1 (by omega), hC, CKp.refl _ _ _ _⟩
     ·exact ⟨base (fun q => absurd q (by omega)) (fun _ => hst), hC, CKp.refl _ _ _ _⟩
 ·rw [if_neg hp, if_neg hp]
  exact ⟨⟨rfl, rfl, rfl, rfl, rfl, rfl, rfl, ⟨h81, h82⟩, h9⟩, hC, CKp.refl _ _ _ _⟩
end
structure ClR (k k' : Cl) : Prop where
 t : k'.t = k.t
 s : k'.s = k.s
 so : k'.so = k.so
 d : k'.d = k.d
 who : k'.who = k.who
 slot : k'.slot = k.slot
 steps : k'.steps = k.steps
 wg : k'.wg = k.wg
 ph : k'.ph = k.ph
theorem ClR.pass {k k' : Cl} (h : ClR k k') (m : Int) : ClR (k.pass m) (k'.pass m) := by
 obtain ⟨h1, h2, h3, h4, h5, h6, h7, h8, h9⟩ := h
 unfold Cl.pass
 rw [h6, h2]
 split
 ·exact ⟨h1, (by first | rfl | exact h2), h3, h4, h5, (by first | rfl | exact h6), h7, h8, rfl⟩
 ·exact ⟨h1, (by first | rfl | exact h2), h3, h4, h5, rfl, rfl, h8, h9⟩
theorem ClR.word {k k' : Cl} (h : ClR k k') {x x' : Int} (hx : x' / 8 % 8192 = x / 8 % 8192) : ClR (k.word x) (k'.word x') := ⟨h.t, h.s, h.so, h.d, h.who, h.slot, h.steps, hx, h.ph⟩
theorem ClR.step {N : Nat} {P : Int → Int → Prop} {fl : Bool} {f : Int → Int} {C C' : List Int} {k k' : Cl} {m : Int} {hz : Nat} (h : ClR k k') (hC : CR N P fl f C C') (hk : k.Ok N m hz C) : ClR (k.step m hz C) (k'.step m hz C') := by
 have g0 := hk.g0
 have hhz := hk.hz
 have s0 := hk.s0
 have s1 := hk.s1
 have m0 := hk.m0
 have m1 := hk.m1
 have hcell : k'.cell hz = k.cell hz := by
  unfold Cl.cell
  rw [h.steps, h.slot]
 unfold Cl.step
 by_cases p : k.ph = 0
 ·rw [if_pos p, if_pos (h.ph.trans p), hcell]
  by_cases e : k.steps = 0
  ·rw [if_pos e, if_pos (h.steps.trans e)]
   have hw := hC.word (k.cell hz) (by unfold Cl.cell; rw [if_pos e]; omega)
   have e1 := hw.gen
   have e2 := hw.st
   have hb := h.word (x := C.getD (k.cell hz) 0) (x' := C'.getD (k.cell hz) 0) e1
   generalize C.getD (k.cell hz) 0 = x at *
   generalize C'.getD (k.cell hz) 0 = x' at *
   unfold Cl.look
   by_cases c1 : x / 8 % 8192 = 8191
   ·rw [if_pos c1, if_pos (e1.trans c1)]
    exact hb.pass m
   ·rw [if_neg c1, if_neg (fun q => c1 (e1.symm.trans q))]
    by_cases c2 : x % 4 = 0
    ·rw [if_pos c2, if_pos (e2.trans c2)]
     exact ⟨hb.t, hb.s, hb.so, hb.d, hb.who, hb.slot, hb.steps, hb.wg, rfl⟩
    ·rw [if_neg c2, if_neg (fun q => c2 (e2.symm.trans q))]
     by_cases c3 : x % 4 = 2
     ·rw [if_pos c3, if_pos (e2.trans c3)]
      exact ⟨hb.t, hb.s, hb.so, hb.d, hb.who, hb.slot, rfl, hb.wg, hb.ph⟩
     ·rw [if_neg c3, if_neg (fun q => c3 (e2.symm.trans q))]
      exact hb.pass m
  ·rw [if_neg e, if_neg (fun q => e (h.steps.symm.trans q)), hC.rest (k.cell hz) (by unfold Cl.cell; rw [if_neg e]; omega)]
   generalize C.getD (k.cell hz) 0 = x
   unfold Cl.guard
   by_cases c1 : x = k.slot + 1
   ·have c1' : x = k'.slot + 1 := by rw [h.slot]; exact c1
    rw [if_pos c1, if_pos c1']
    exact h.pass m
   ·have c1' : ¬ x = k'.slot + 1 := by rw [h.slot]; exact c1
    rw [if_neg c1, if_neg c1']
    by_cases c2 : k.steps = k.t
    ·have c2' : k'.steps = k'.t := by rw [h.steps, h.t]; exact c2
     rw [if_pos c2, if_pos c2']
     exact ⟨h.t, h.s, h.so, h.d, h.who, h.slot, h.steps, h.wg, rfl⟩
    ·have c2' : ¬ k'.steps = k'.t := by rw [h.steps, h.t]; exact c2
     rw [if_neg c2, if_neg c2']
     exact ⟨h.t, h.s, h.so, h.d, h.who, h.slot, by show k'.steps + 1 = k.steps + 1; rw [h.steps], h.wg, h.ph⟩
 ·rw [if_neg p, if_neg (fun q => p (h.ph.symm.trans q))]
  exact h
structure PuR (P : Int → Int → Prop) (fl : Bool) (f : Int → Int) (k k' : Pu) : Prop where
 t : k'.t = k.t
 s : k'.s = k.s
 so : k'.so = k.so
 d : k'.d = k.d
 who : k'.who = k.who
 e : k'.e = flE fl k.e
 value : k'.value = f k.value
 next : k'.next = k.next
 ph : k'.ph = k.ph
 cl : ClR k.cl k'.cl
 tk : TkR P k.tk k'.tk
theorem PuR.more {P P2 : Int → Int → Prop} {fl : Bool} {f : Int → Int} {k k' : Pu} (h : PuR P fl f k k') (hP : ∀ a b, P a b → P2 a b) : PuR P2 fl f k k' :=
 ⟨h.t, h.s, h.so, h.d, h.who, h.e, h.value, h.next, h.ph, h.cl, h.tk.more hP⟩
theorem PuR.after {P : Int → Int → Prop} {fl : Bool} {f : Int → Int} {k k' : Pu} (h : PuR P fl f k k') (r : Int) : PuR P fl f (k.after r) (k'.after r) := by
 unfold Pu.after
 split
 ·exact ⟨h.t, h.s, h.so, h.d, h.who, h.e, h.value, (by show k'.next + 1 = k.next + 1; rw [h.next]), h.ph, h.cl, h.tk⟩
 ·split
  ·exact ⟨h.t, h.s, h.so, h.d, h.who, h.e, h.value, h.next, rfl, h.cl, h.tk⟩
  ·exact h
def PuX (N : Nat) (f : Int → Int) (C C' : List Int) (k : Pu) : Prop := k.ph = 0 → k.next = 3 → C'.getD (N + k.cl.slot.toNat) 0 = f (C.getD (N + k.cl.slot.toNat) 0)
theorem PuR.step {N : Nat} {P : Int → Int → Prop} {fl : Bool} {f : Int → Int} {C C' : List Int} {k k' : Pu} {m : Int} {nb hz : Nat} {now now' : Int} (h : PuR P fl f k k') (hx : PuX N f C C' k) (hC : CR N P fl f C C') (hk : k.Ok N m nb hz C) (hk' : k'.Ok N m nb hz C') (hT : Tm P k.tk.so now now') (hn : 2 * N ≤ nb) (n0 : 0 ≤ now) (n0' : 0 ≤ now') :
  PuR P fl f (k.step m nb hz C now) (k'.step m nb hz C' now') ∧ CR N P fl f (k.cells N nb C now) (k'.cells N nb C' now') ∧ CKp N f C C' (k.cells N nb C now) (k'.cells N nb C' now') ∧ PuX N f (k.cells N nb C now) (k'.cells N nb C' now') (k.step m nb hz C now) := by
 have c0 := hk.cl.s0
 have c1 := hk.cl.s1
 have c2 := hk.cl.m0
 have c3 := hk.cl.m1
 have q1 : k'.ph = k.ph := h.ph
 have q2 : k'.next = k.next := h.next
 by_cases hp : k.ph ≠ 0
 ·have hp' : k'.ph ≠ 0 := by rw [q1]; exact hp
  unfold Pu.step Pu.cells
  simp only [if_pos hp, if_pos hp']
  exact ⟨h, hC, CKp.refl _ _ _ _, fun q => absurd q hp⟩
 ·have hp' : ¬ k'.ph ≠ 0 := by rw [q1]; exact hp
  have hp0 : k.ph = 0 := Classical.not_not.1 hp
  have hat := hk.at' hp0
  have noAfter : ∀ (K : Pu) (r : Int), K.next ≠ 3 → K.next ≠ 2 → (K.after r).next ≠ 3 := fun K r n1 n2 => by
   unfold Pu.after
   split
   ·show K.next + 1 ≠ 3
    omega
   ·split
    ·exact n1
    ·exact n1
  by_cases a0 : k.next = 0
  ·have a0' : k'.next = 0 := q2.trans a0
   have hcl := h.cl.step hC hk.cl
   have e1 : k.step m nb hz C now = ({ k with cl := k.cl.step m hz C } : Pu).after (k.cl.step m hz C).ph := by unfold Pu.step; rw [if_neg hp, if_pos a0]
   have e2 : k'.step m nb hz C' now' = ({ k' with cl := k'.cl.step m hz C' } : Pu).after (k'.cl.step m hz C').ph := by unfold Pu.step; rw [if_neg hp', if_pos a0']
   have e3 : k.cells N nb C now = C := by unfold Pu.cells; rw [if_neg hp, if_pos a0]
   have e4 : k'.cells N nb C' now' = C' := by unfold Pu.cells; rw [if_neg hp', if_pos a0']
   rw [e1, e2, e3, e4, hcl.ph]
   have hR : PuR P fl f ({ k with cl := k.cl.step m hz C } : Pu) ({ k' with cl := k'.cl.step m hz C' } : Pu) := ⟨h.t, h.s, h.so, h.d, h.who, h.e, h.value, h.next, h.ph, hcl, h.tk⟩
   exact ⟨hR.after _, hC, CKp.refl _ _ _ _, fun _ q => absurd q (noAfter _ _ (by show k.next ≠ 3; omega) (by show k.next ≠ 2; omega))⟩
  ·have a0' : ¬ k'.next = 0 := by rw [q2]; exact a0
   by_cases a1 : k.next = 1
   ·have a1' : k'.next = 1 := q2.trans a1
    obtain ⟨t1, t2, t3⟩ := h.tk.step hC hk.tk hk'.tk hT hn n0 n0'
    have e1 : k.step m nb hz C now = ({ k with tk := (stp nb k.tk C now).1 } : Pu).after (stp nb k.tk C now).1.ph := by unfold Pu.step; rw [if_neg hp, if_neg a0, if_pos a1]
    have e2 : k'.step m nb hz C' now' = ({ k' with tk := (stp nb k'.tk C' now').1 } : Pu).after (stp nb k'.tk C' now').1.ph := by unfold Pu.step; rw [if_neg hp', if_neg a0', if_pos a1']
    have e3 : k.cells N nb C now = (stp nb k.tk C now).2.1 := by unfold Pu.cells; rw [if_neg hp, if_neg a0, if_pos a1]
    have e4 : k'.cells N nb C' now' = (stp nb k'.tk C' now').2.1 := by unfold Pu.cells; rw [if_neg hp', if_neg a0', if_pos a1']
    rw [e1, e2, e3, e4, t1.ph]
    have hR : PuR P fl f ({ k with tk := (stp nb k.tk C now).1 } : Pu) ({ k' with tk := (stp nb k'.tk C' now').1 } : Pu) := ⟨h.t, h.s, h.so, h.d, h.who, h.e, h.value, h.next, h.ph, h.cl, t1⟩
    by_cases hph : (stp nb k.tk C now).1.ph = 1
    ·refine ⟨hR.after _, t2, t3, fun _ q => ?_⟩
     exfalso
     have : (({ k with tk := (stp nb k.tk C now).1 } : Pu).after (stp nb k.tk C now).1.ph).next = k.next + 1 := by unfold Pu.after; rw [if_pos hph]
     omega
    ·refine ⟨hR.after _, t2, t3, fun _ q => ?_⟩
     exfalso
     have : (({ k with tk := (stp nb k.tk C now).1 } : Pu).after (stp nb k.tk C now).1.ph).next = k.next := by
      unfold Pu.after
      rw [if_neg hph]
      split <;> rfl
     omega
   ·have a1' : ¬ k'.next = 1 := by rw [q2]; exact a1
    by_cases a2 : k.next = 2
    ·have a2' : k'.next = 2 := q2.trans a2
     have e1 : k.step m nb hz C now = { k with next := 3 } := by unfold Pu.step; rw [if_neg hp, if_neg a0, if_neg a1, if_pos a2]
     have e2 : k'.step m nb hz C' now' = { k' with next := 3 } := by unfold Pu.step; rw [if_neg hp', if_neg a0', if_neg a1', if_pos a2']
     have e3 : k.cells N nb C now = C.set (N + k.cl.slot.toNat) k.value := by unfold Pu.cells; rw [if_neg hp, if_neg a0, if_neg a1, if_pos a2]
     have e4 : k'.cells N nb C' now' = C'.set (N + k.cl.slot.toNat) (f k.value) := by unfold Pu.cells; rw [if_neg hp', if_neg a0', if_neg a1', if_pos a2', h.cl.slot, h.value]
     rw [e1, e2, e3, e4]
     obtain ⟨t2, t3⟩ := hC.setVal (j0 := k.cl.slot.toNat) (by omega) k.value
     refine ⟨⟨h.t, h.s, h.so, h.d, h.who, h.e, h.value, rfl, h.ph, h.cl, h.tk⟩, t2, t3, fun _ _ => ?_⟩
     have hb := hC.big
     have hl := hC.len
     show (C'.set (N + k.cl.slot.toNat) (f k.value)).getD (N + k.cl.slot.toNat) 0 = f ((C.set (N + k.cl.slot.toNat) k.value).getD (N + k.cl.slot.toNat) 0)
     rw [zAL _ (by omega), zAL _ (by omega)]
    ·have a2' : ¬ k'.next = 2 := by rw [q2]; exact a2
     have e1 : k.step m nb hz C now = { k with ph := 1 } := by unfold Pu.step; rw [if_neg hp, if_neg a0, if_neg a1, if_neg a2]
     have e2 : k'.step m nb hz C' now' = { k' with ph := 1 } := by unfold Pu.step; rw [if_neg hp', if_neg a0', if_neg a1', if_neg a2']
     have e3 : k.cells N nb C now = C.set k.cl.slot.toNat k.pack := by unfold Pu.cells; rw [if_neg hp, if_neg a0, if_neg a1, if_neg a2]
     have e4 : k'.cells N nb C' now' = C'.set k.cl.slot.toNat k'.pack := by unfold Pu.cells; rw [if_neg hp', if_neg a0', if_neg a1', if_neg a2', h.cl.slot]
     rw [e1, e2, e3, e4]
     have a3 : k.next = 3 := by omega
     have hc1 : k.cl.ph = 1 := by omega
     have ht1 : k.tk.ph = 1 := by omega
     obtain ⟨g0, g1⟩ := hk.wg (.inl hc1)
     obtain ⟨l0, l1, l2⟩ := hk.st ht1
     obtain ⟨l0', l1', l2'⟩ := hk'.st (h.tk.ph.trans ht1)
     have e0 := hk.e0
     have e1 := hk.e1
     have e0' := hk'.e0
     have e1' := hk'.e1
     have hwg := h.cl.wg
     obtain ⟨b1, b2, b3, b4, b5⟩ := zEt (e := k.e) (g := k.cl.wg + 1) (lo := k.tk.lo) (hi := k.tk.hi) (by omega) (by omega) (by omega) l0 (by omega) (by omega)
     obtain ⟨d1, d2, d3, d4, d5⟩ := zEt (e := k'.e) (g := k'.cl.wg + 1) (lo := k'.tk.lo) (hi := k'.tk.hi) (by omega) (by omega) (by omega) l0' (by omega) (by omega)
     have hw : Wr P fl k.pack k'.pack := by
      refine .inr ⟨by unfold Pu.pack; rw [b1]; decide, by unfold Pu.pack; rw [b1, d1], ?_, ?_, ?_, ?_⟩
      ·unfold Pu.pack
       rw [b2, d2]
       exact h.e
      ·unfold Pu.pack
       rw [b3, d3, hwg]
      ·unfold Pu.pack
       rw [b4, d4]
       exact (h.tk.st ht1).1
      ·unfold Pu.pack
       rw [b5, d5]
       exact (h.tk.st ht1).2
     have hne : k.pack ≠ 0 := fun q => by
      have h1 : k.pack % 4 = 1 := by unfold Pu.pack; exact b1
      rw [q] at h1
      exact absurd h1 (by decide)
     obtain ⟨t2, t3⟩ := hC.setWord (j0 := k.cl.slot.toNat) (by omega) hw hne (hx hp0 a3)
     exact ⟨⟨h.t, h.s, h.so, h.d, h.who, h.e, h.value, h.next, rfl, h.cl, h.tk⟩, t2, t3, fun q => absurd q (by show ¬ (1 : Int) = 0; decide)⟩
structure SnR (P : Int → Int → Prop) (fl : Bool) (k k' : Sn) : Prop where
 t : k'.t = k.t
 s : k'.s = k.s
 so : k'.so = k.so
 d : k'.d = k.d
 who : k'.who = k.who
 start : k'.start = k.start
 read : k'.read = k.read
 N : k'.N = k.N
 turned : k'.turned = k.turned
 passes : k'.passes = k.passes
 ph : k'.ph = k.ph
 len : k'.X.length = k.X.length
 X : ∀ i, Wr P fl (k.X.getD i 0) (k'.X.getD i 0)
theorem SnR.more {P P2 : Int → Int → Prop} {fl : Bool} {k k' : Sn} (h : SnR P fl k k') (hP : ∀ a b, P a b → P2 a b) : SnR P2 fl k k' :=
 ⟨h.t, h.s, h.so, h.d, h.who, h.start, h.read, h.N, h.turned, h.passes, h.ph, h.len, fun i => (h.X i).more hP⟩
theorem SnR.step {N : Nat} {P : Int → Int → Prop} {fl : Bool} {f : Int → Int} {C C' : List Int} {k k' : Sn} (h : SnR P fl k k') (hC : CR N P fl f C C') (hN : k.N = N) (hN0 : 0 < N) (hP : PM P) (hX : ∀ i, F64 (k.X.getD i 0)) (hX' : ∀ i, F64 (k'.X.getD i 0)) (hf : ∀ i, F64 (C.getD i 0)) (hf' : ∀ i, F64 (C'.getD i 0)) : SnR P fl (k.step C) (k'.step C') := by
 have hslot : k'.slot = k.slot := by
  unfold Sn.slot
  rw [h.start, h.read, h.N]
 have hlt : k.slot < N := by
  unfold Sn.slot
  rw [hN]
  have h1 := Int.emod_lt_of_pos (k.start + k.read) (show (0 : Int) < N by omega)
  have h2 := Int.emod_nonneg (k.start + k.read) (show (N : Int) ≠ 0 by omega)
  omega
 have hw := hC.word k.slot hlt
 have hput : SnR P fl (k.put (C.getD k.slot 0)) (k'.put (C'.getD k'.slot 0)) := by
  rw [hslot]
  have he := (h.X k.slot).eq hw hP (hX _).1 (hf _).1 (hX' _).1 (hf' _).1
  refine ⟨h.t, h.s, h.so, h.d, h.who, h.start, by show k'.read + 1 = k.read + 1; rw [h.read], h.N, ?_, h.passes, h.ph, by show (k'.X.set _ _).length = (k.X.set _ _).length; rw [List.length_set, List.length_set]; exact h.len, fun i => ?_⟩
  ·show (k'.turned || decide (C'.getD k.slot 0 ≠ k'.X.getD k'.slot 0)) = (k.turned || decide (C.getD k.slot 0 ≠ k.X.getD k.slot 0))
   rw [h.turned, hslot]
   congr 1
   exact decide_eq_decide.2 ⟨fun q e => q (he.1 e.symm).symm, fun q e => q (he.2 e.symm).symm⟩
  ·show Wr P fl ((k.X.set k.slot (C.getD k.slot 0)).getD i 0) ((k'.X.set k'.slot (C'.getD k.slot 0)).getD i 0)
   rw [hslot]
   by_cases e : k.slot = i
   ·subst e
    rcases Nat.lt_or_ge k.slot k.X.length with hl | hl
    ·rw [zAL _ hl, zAL _ (by rw [h.len]; exact hl)]
     exact hw
    ·rw [List.set_eq_of_length_le hl, List.set_eq_of_length_le (by rw [h.len]; exact hl)]
     exact h.X _
   ·rw [zAF _ e, zAF _ e]
    exact h.X i
 unfold Sn.step
 rw [h.ph, h.read, h.N]
 split
 ·split
  ·unfold Sn.fin
   refine ⟨hput.t, hput.s, hput.so, hput.d, hput.who, hput.start, rfl, hput.N, rfl, by show _ + 1 = _ + 1; rw [hput.passes], ?_, hput.len, hput.X⟩
   show (if 1 < (k'.put (C'.getD k'.slot 0)).passes + 1 ∧ (k'.put (C'.getD k'.slot 0)).turned = false then (1 : Int) else (k'.put (C'.getD k'.slot 0)).ph) = _
   rw [hput.passes, hput.turned, hput.ph]
  ·exact hput
 ·exact h
structure TaR (P : Int → Int → Prop) (fl : Bool) (f : Int → Int) (k k' : Ta) : Prop where
 t : k'.t = k.t
 s : k'.s = k.s
 so : k'.so = k.so
 d : k'.d = k.d
 who : k'.who = k.who
 slot : k'.slot = k.slot
 next : k'.next = k.next
 lost : k'.lost = k.lost
 ph : k'.ph = k.ph
 word : Wr P fl k.word k'.word
 live : k.word % 4 = 1
 value : 3 ≤ k.next → k.lost = false → k'.value = f k.value
theorem TaR.more {P P2 : Int → Int → Prop} {fl : Bool} {f : Int → Int} {k k' : Ta} (h : TaR P fl f k k') (hP : ∀ a b, P a b → P2 a b) : TaR P2 fl f k k' :=
 ⟨h.t, h.s, h.so, h.d, h.who, h.slot, h.next, h.lost, h.ph, h.word.more hP, h.live, h.value⟩
def TaX (N : Nat) (C : List Int) (k : Ta) : Prop := k.ph = 0 → k.next = 2 → C.getD k.slot.toNat 0 ≠ 0
theorem TaR.step {N : Nat} {P : Int → Int → Prop} {fl : Bool} {f : Int → Int} {C C' : List Int} {k k' : Ta} {hz : Nat} (h : TaR P fl f k k') (hx : TaX N C k) (hC : CR N P fl f C C') (hk : k.Ok N k.slot.toNat (N + k.slot.toNat) hz C) (hk' : k'.Ok N k'.slot.toNat (N + k'.slot.toNat) hz C') (hhz : 2 * N ≤ hz) (hP : PM P) (hf : ∀ i, F64 (C.getD i 0)) (hf' : ∀ i, F64 (C'.getD i 0)) (hp : k.ph = 0) :
  TaR P fl f (k.go k.slot.toNat (N + k.slot.toNat) C) (k'.go k'.slot.toNat (N + k'.slot.toNat) C') ∧ CR N P fl f (k.cells k.slot.toNat hz C) (k'.cells k'.slot.toNat hz C') ∧ CKp N f C C' (k.cells k.slot.toNat hz C) (k'.cells k'.slot.toNat hz C') ∧ TaX N (k.cells k.slot.toNat hz C) (k.go k.slot.toNat (N + k.slot.toNat) C) := by
 have s0 := hk.s0
 have s1 := hk.s1
 have hlt : k.slot.toNat < N := by omega
 have hw := hC.word _ hlt
 have heq := hw.eq h.word hP (hf _).1 hk.x0 (hf' _).1 hk'.x0
 have hst := hk.st hp
 have q1 : k'.ph = 0 := h.ph.trans hp
 have q2 : k'.next = k.next := h.next
 have hns : k'.slot.toNat = k.slot.toNat := by rw [h.slot]
 rw [hns]
 by_cases a0 : k.next = 0
 ·obtain ⟨g1, g2, g3⟩ := go_0 (j := k.slot.toNat) (jv := N + k.slot.toNat) (hz := hz) (C := C) hp a0
  obtain ⟨g1', g2', g3'⟩ := go_0 (j := k.slot.toNat) (jv := N + k.slot.toNat) (hz := hz) (C := C') q1 (q2.trans a0)
  have e5 : k'.slot + 1 = k.slot + 1 := by rw [h.slot]
  rw [g1, g2, g1', g2', e5]
  obtain ⟨t2, t3⟩ := hC.setRest hhz (k.slot + 1)
  exact ⟨⟨h.t, h.s, h.so, h.d, h.who, h.slot, rfl, h.lost, h.ph, h.word, h.live, fun q => absurd q (by show ¬ (3 : Int) ≤ 1; decide)⟩, t2, t3, fun _ q => absurd q (by show ¬ (1 : Int) = 2; decide)⟩
 ·by_cases a1 : k.next = 1
  ·by_cases e : C.getD k.slot.toNat 0 = k.word
   ·obtain ⟨g1, g2, g3⟩ := go_1y (jv := N + k.slot.toNat) (hz := hz) hp a1 e
    obtain ⟨g1', g2', g3'⟩ := go_1y (jv := N + k.slot.toNat) (hz := hz) q1 (q2.trans a1) (heq.1 e)
    rw [g1, g2, g1', g2']
    refine ⟨⟨h.t, h.s, h.so, h.d, h.who, h.slot, rfl, h.lost, h.ph, h.word, h.live, fun q => absurd q (by show ¬ (3 : Int) ≤ 2; decide)⟩, hC, CKp.refl _ _ _ _, fun _ _ => ?_⟩
    show C.getD k.slot.toNat 0 ≠ 0
    rw [e]
    have := h.live
    omega
   ·obtain ⟨g1, g2, g3⟩ := go_1n (jv := N + k.slot.toNat) (hz := hz) hp a1 e
    obtain ⟨g1', g2', g3'⟩ := go_1n (jv := N + k.slot.toNat) (hz := hz) q1 (q2.trans a1) (fun q => e (heq.2 q))
    rw [g1, g2, g1', g2']
    exact ⟨⟨h.t, h.s, h.so, h.d, h.who, h.slot, rfl, rfl, h.ph, h.word, h.live, fun _ q => absurd q (by show ¬ true = false; decide)⟩, hC, CKp.refl _ _ _ _, fun _ q => absurd q (by show ¬ (4 : Int) = 2; decide)⟩
  ·by_cases a2 : k.next = 2
   ·obtain ⟨g1, g2, g3⟩ := go_2 (j := k.slot.toNat) (jv := N + k.slot.toNat) (hz := hz) (C := C) hp a2
    obtain ⟨g1', g2', g3'⟩ := go_2 (j := k.slot.toNat) (jv := N + k.slot.toNat) (hz := hz) (C := C') q1 (q2.trans a2)
    rw [g1, g2, g1', g2']
    refine ⟨⟨h.t, h.s, h.so, h.d, h.who, h.slot, rfl, h.lost, h.ph, h.word, h.live, fun _ _ => ?_⟩, hC, CKp.refl _ _ _ _, fun _ q => absurd q (by show ¬ (3 : Int) = 2; decide)⟩
    show C'.getD (N + k.slot.toNat) 0 = f (C.getD (N + k.slot.toNat) 0)
    exact (hC.val _ hlt).resolve_left (hx hp a2)
   ·by_cases a3 : k.next = 3
    ·have hlost : k.lost = false := by
      rcases hst with q | q | q | q | q
      ·exact q.2
      ·exact q.2
      ·exact q.2
      ·exact q.2
      ·omega
     by_cases e : C.getD k.slot.toNat 0 = k.word
     ·obtain ⟨g1, g2, g3⟩ := go_3y (jv := N + k.slot.toNat) (hz := hz) hp a3 e
      obtain ⟨g1', g2', g3'⟩ := go_3y (jv := N + k.slot.toNat) (hz := hz) q1 (q2.trans a3) (heq.1 e)
      rw [g1, g2, g1', g2']
      have hlv := h.live
      have htk := (zAY hk.x0).1
      have hne : tkW k.word ≠ 0 := fun q => by rw [q] at htk; exact absurd htk (by decide)
      obtain ⟨t2, t3⟩ := hC.setWord hlt (h.word.tk (by omega) hk.x0 hk'.x0) hne ((hC.val _ hlt).resolve_left (by rw [e]; intro q; rw [q] at hlv; exact absurd hlv (by decide)))
      exact ⟨⟨h.t, h.s, h.so, h.d, h.who, h.slot, rfl, h.lost, h.ph, h.word, h.live, fun _ _ => h.value (by omega) hlost⟩, t2, t3, fun _ q => absurd q (by show ¬ (4 : Int) = 2; decide)⟩
     ·obtain ⟨g1, g2, g3⟩ := go_3n (jv := N + k.slot.toNat) (hz := hz) hp a3 e
      obtain ⟨g1', g2', g3'⟩ := go_3n (jv := N + k.slot.toNat) (hz := hz) q1 (q2.trans a3) (fun q => e (heq.2 q))
      rw [g1, g2, g1', g2']
      exact ⟨⟨h.t, h.s, h.so, h.d, h.who, h.slot, rfl, rfl, h.ph, h.word, h.live, fun _ q => absurd q (by show ¬ true = false; decide)⟩, hC, CKp.refl _ _ _ _, fun _ q => absurd q (by show ¬ (4 : Int) = 2; decide)⟩
    ·obtain ⟨t2, t3⟩ := hC.setRest hhz 0
     have a4 : k.next = 4 := by omega
     by_cases e : k.lost = true
     ·obtain ⟨g1, g2, g3⟩ := go_4n (j := k.slot.toNat) (jv := N + k.slot.toNat) (hz := hz) (C := C) hp a4 e
      obtain ⟨g1', g2', g3'⟩ := go_4n (j := k.slot.toNat) (jv := N + k.slot.toNat) (hz := hz) (C := C') q1 (q2.trans a4) (h.lost.trans e)
      rw [g1, g2, g1', g2']
      exact ⟨⟨h.t, h.s, h.so, h.d, h.who, h.slot, h.next, h.lost, rfl, h.word, h.live, h.value⟩, t2, t3, fun q => absurd q (by show ¬ (2 : Int) = 0; decide)⟩
     ·have e' : k.lost = false := by simpa using e
      obtain ⟨g1, g2, g3⟩ := go_4y (j := k.slot.toNat) (jv := N + k.slot.toNat) (hz := hz) (C := C) hp a4 e'
      obtain ⟨g1', g2', g3'⟩ := go_4y (j := k.slot.toNat) (jv := N + k.slot.toNat) (hz := hz) (C := C') q1 (q2.trans a4) (h.lost.trans e')
      rw [g1, g2, g1', g2']
      exact ⟨⟨h.t, h.s, h.so, h.d, h.who, h.slot, rfl, h.lost, rfl, h.word, h.live, fun _ q => h.value (by omega) q⟩, t2, t3, fun q => absurd q (by show ¬ (1 : Int) = 0; decide)⟩
end
section
open Go.RowKit
section
variable {N : Nat} {P P2 : Int → Int → Prop} {fl : Bool} {f : Int → Int} {C C' D D' : List Int}
structure GeR (P : Int → Int → Prop) (fl : Bool) (f : Int → Int) (k k' : Ge) : Prop where
 t : k'.t = k.t
 s : k'.s = k.s
 so : k'.so = k.so
 d : k'.d = k.d
 who : k'.who = k.who
 e : k'.e = flE fl k.e
 start : k'.start = k.start
 tries : k'.tries = k.tries
 ph : k'.ph = k.ph
 sn : SnR P fl k.sn k'.sn
 no : k.ta = none → k'.ta = none
 ta : ∀ a, k.ta = some a → ∃ a', k'.ta = some a' ∧ TaR P fl f a a'
theorem GeR.more {k k' : Ge} (h : GeR P fl f k k') (hP : ∀ a b, P a b → P2 a b) : GeR P2 fl f k k' :=
 ⟨h.t, h.s, h.so, h.d, h.who, h.e, h.start, h.tries, h.ph, h.sn.more hP, h.no, fun a ha => by obtain ⟨a', h1, h2⟩ := h.ta a ha; exact ⟨a', h1, h2.more hP⟩⟩
def GeX (N : Nat) (C : List Int) (k : Ge) : Prop := ∀ a, k.ta = some a → TaX N C a
theorem zFp (t s so d who st : Int) (M : Nat) : SnR P fl (sn0 t s so d who st M) (sn0 t s so d who st M) :=
 ⟨rfl, rfl, rfl, rfl, rfl, rfl, rfl, rfl, rfl, rfl, rfl, rfl, fun i => .inl ⟨gzeros _ _, gzeros _ _⟩⟩
theorem zIo {a : Ta} {j jv : Nat} (hp : a.ph = 0) (hst : (a.next = 0 ∧ a.lost = false) ∨ (a.next = 1 ∧ a.lost = false) ∨ (a.next = 2 ∧ a.lost = false) ∨ (a.next = 3 ∧ a.lost = false) ∨ a.next = 4) (h1 : (a.go j jv C).ph = 1) : 3 ≤ (a.go j jv C).next ∧ (a.go j jv C).lost = false := by
 rcases hst with ⟨q, hl⟩ | ⟨q, hl⟩ | ⟨q, hl⟩ | ⟨q, hl⟩ | q
 ·rw [(go_0 (hz := 0) hp q).1] at h1 ⊢
  exact absurd (hp.symm.trans h1) (by decide)
 ·by_cases e : C.getD j 0 = a.word
  ·rw [(go_1y (hz := 0) hp q e).1] at h1
   exact absurd (hp.symm.trans h1) (by decide)
  ·rw [(go_1n (hz := 0) hp q e).1] at h1
   exact absurd (hp.symm.trans h1) (by decide)
 ·rw [(go_2 (hz := 0) hp q).1] at h1
  exact absurd (hp.symm.trans h1) (by decide)
 ·by_cases e : C.getD j 0 = a.word
  ·rw [(go_3y (hz := 0) hp q e).1] at h1
   exact absurd (hp.symm.trans h1) (by decide)
  ·rw [(go_3n (hz := 0) hp q e).1] at h1
   exact absurd (hp.symm.trans h1) (by decide)
 ·cases hl : a.lost with
  | true =>
   rw [(go_4n (hz := 0) hp q hl).1] at h1
   exact absurd (show (2 : Int) = 1 from h1) (by decide)
  | false =>
   rw [(go_4y (hz := 0) hp q hl).1]
   exact ⟨by show (3 : Int) ≤ 5; decide, hl⟩
theorem GeR.step {k k' : Ge} {hz : Nat} {z : Int} (h : GeR P fl f k k') (hx : GeX N C k) (hC : CR N P fl f C C') (hk : k.Ok N hz C) (hk' : k'.Ok N hz C') (hhz : 2 * N ≤ hz) (hP : PM P) (hf : ∀ i, F64 (C.getD i 0)) (hf' : ∀ i, F64 (C'.getD i 0)) (ha : k.ask C z) :
  k'.ask C' z ∧ GeR P fl f (k.step N hz C z) (k'.step N hz C' z) ∧ CR N P fl f (k.cells N hz C) (k'.cells N hz C') ∧ CKp N f C C' (k.cells N hz C) (k'.cells N hz C') ∧ GeX N (k.cells N hz C) (k.step N hz C z) ∧ (k.ph = 0 → (k.step N hz C z).ph = 1 → (k'.step N hz C' z).val = f (k.step N hz C z).val) := by
 by_cases hp : k.ph ≠ 0
 ·have hp' : k'.ph ≠ 0 := by rw [h.ph]; exact hp
  have e1 : k.step N hz C z = k := if_pos hp
  have e2 : k.cells N hz C = C := if_pos hp
  have e1' : k'.step N hz C' z = k' := if_pos hp'
  have e2' : k'.cells N hz C' = C' := if_pos hp'
  rw [e1, e2, e1', e2']
  exact ⟨fun q => absurd q hp', h, hC, CKp.refl _ _ _ _, hx, fun q => absurd q hp⟩
 have hp0 : k.ph = 0 := Classical.not_not.1 hp
 have hp' : ¬ k'.ph ≠ 0 := by rw [h.ph]; exact hp
 cases hta : k.ta with
 | none =>
  have hta' := h.no hta
  have hN0 : 0 < N := by have := hk.lay.n1; have := hk.lay.t1; omega
  have hs := h.sn.step hC hk.sN hN0 hP hk.sX hk'.sX hf hf'
  obtain ⟨hsn, _⟩ := hk.sn hp0 hta
  have hlen : (k.sn.step C).X.length = N := by
   have : (k.sn.step C).X.length = k.sn.X.length := by
    unfold Sn.step
    repeat' split
    all_goals first
     | rfl
     | (show (k.sn.X.set _ _).length = _; rw [List.length_set])
   rw [this, hsn.X, hk.sN]
  have hNn : N ≤ 1000000 := by have := hk.lay.n2; omega
  have hask : (k.sn.step C).ph = 1 → IsEnd (k'.sn.step C').X k'.e z := fun h1 => by
   rw [h.e]
   exact zIk hP hs.len (by omega) hs.X (zDi hk.sX hf).2 (zDi hk'.sX hf').2 hk.e (ha hp0 hta h1)
  have e1 : k.step N hz C z = k.read (k.sn.step C) z := by unfold Ge.step; rw [if_neg hp, hta]
  have e2 : k.cells N hz C = C := by unfold Ge.cells; rw [if_neg hp, hta]
  have e1' : k'.step N hz C' z = k'.read (k'.sn.step C') z := by unfold Ge.step; rw [if_neg hp', hta']
  have e2' : k'.cells N hz C' = C' := by unfold Ge.cells; rw [if_neg hp', hta']
  rw [e1, e2, e1', e2']
  refine ⟨fun _ _ h1 => hask (by rw [← hs.ph]; exact h1), ?_⟩
  unfold Ge.read
  by_cases h1 : (k.sn.step C).ph ≠ 1
  ·rw [if_pos h1, if_pos (show (k'.sn.step C').ph ≠ 1 by rw [hs.ph]; exact h1)]
   exact ⟨⟨h.t, h.s, h.so, h.d, h.who, h.e, h.start, h.tries, h.ph, hs, h.no, h.ta⟩, hC, CKp.refl _ _ _ _, hx, fun _ q => absurd (hp0.symm.trans q) (by decide)⟩
  ·rw [if_neg h1, if_neg (show ¬ (k'.sn.step C').ph ≠ 1 by rw [hs.ph]; exact h1)]
   by_cases hz0 : z < 0
   ·rw [if_pos hz0, if_pos hz0]
    exact ⟨⟨h.t, h.s, h.so, h.d, h.who, h.e, h.start, h.tries, rfl, hs, h.no, h.ta⟩, hC, CKp.refl _ _ _ _, hx, fun _ q => absurd (show (2 : Int) = 1 from q) (by decide)⟩
   ·rw [if_neg hz0, if_neg hz0]
    refine ⟨⟨h.t, h.s, h.so, h.d, h.who, h.e, h.start, h.tries, h.ph, hs, fun q => (by cases q), fun a q => ?_⟩, hC, CKp.refl _ _ _ _, fun a q => ?_, fun _ q => absurd (hp0.symm.trans q) (by decide)⟩
    ·cases q
     refine ⟨_, rfl, ⟨h.t, h.s, h.so, h.d, h.who, rfl, rfl, rfl, rfl, hs.X _, ?_, fun q => absurd q (by show ¬ (3 : Int) ≤ 0; decide)⟩⟩
     rcases ha hp0 hta (Classical.not_not.1 h1) with ⟨q, _⟩ | ⟨i, rfl, _, hl, _⟩
     ·omega
     ·exact hl
    ·cases q
     exact fun _ q => absurd (show (0 : Int) = 2 from q) (by decide)
 | some a =>
  obtain ⟨a', hta', hr⟩ := h.ta a hta
  obtain ⟨aok, aph⟩ := hk.ta hp0 a hta
  obtain ⟨aok', aph'⟩ := hk'.ta (by rw [h.ph]; exact hp0) a' hta'
  have hs := hr.step (hx a hta) hC aok aok' hhz hP hf hf' aph
  obtain ⟨s1, s2, s3, s4⟩ := hs
  have hdone := zIo (C := C) (j := a.slot.toNat) (jv := N + a.slot.toNat) aph (aok.st aph)
  have e1 : k.step N hz C z = k.grab N (a.go a.slot.toNat (N + a.slot.toNat) C) := by unfold Ge.step; rw [if_neg hp, hta]
  have e2 : k.cells N hz C = a.cells a.slot.toNat hz C := by unfold Ge.cells; rw [if_neg hp, hta]
  have e1' : k'.step N hz C' z = k'.grab N (a'.go a'.slot.toNat (N + a'.slot.toNat) C') := by unfold Ge.step; rw [if_neg hp', hta']
  have e2' : k'.cells N hz C' = a'.cells a'.slot.toNat hz C' := by unfold Ge.cells; rw [if_neg hp', hta']
  rw [e1, e2, e1', e2']
  refine ⟨fun _ q => by (rw [hta'] at q; cases q), ?_⟩
  generalize a.go a.slot.toNat (N + a.slot.toNat) C = b at s1 s4 hdone ⊢
  generalize a'.go a'.slot.toNat (N + a'.slot.toNat) C' = b' at s1 ⊢
  have hbp := s1.ph
  unfold Ge.grab
  by_cases h1 : b.ph = 1
  ·rw [if_pos h1, if_pos (show b'.ph = 1 from hbp.trans h1)]
   refine ⟨⟨h.t, h.s, h.so, h.d, h.who, h.e, h.start, h.tries, rfl, h.sn, fun q => (by cases q), fun x q => (by cases q; exact ⟨b', rfl, s1⟩)⟩, s2, s3, fun x q => (by cases q; exact s4), fun _ _ => ?_⟩
   unfold Ge.val
   simp only [if_true]
   rw [if_pos h1, if_pos (hbp.trans h1)]
   exact s1.value (hdone h1).1 (hdone h1).2
  ·rw [if_neg h1, if_neg (show ¬ b'.ph = 1 by rw [hbp]; exact h1)]
   by_cases h2 : b.ph = 2
   ·rw [if_pos h2, if_pos (show b'.ph = 2 from hbp.trans h2)]
    have hsn : SnR P fl (sn0 k.t k.s k.so k.d k.who (IntKind.u64.wrap k.start % N) N) (sn0 k'.t k'.s k'.so k'.d k'.who (IntKind.u64.wrap k'.start % N) N) := by
     rw [h.t, h.s, h.so, h.d, h.who, h.start]
     exact zFp _ _ _ _ _ _ _
    exact ⟨⟨h.t, h.s, h.so, h.d, h.who, h.e, h.start, (by show k'.tries + 1 = k.tries + 1; rw [h.tries]), h.ph, hsn, fun _ => rfl, fun x q => (by cases q)⟩, s2, s3, fun x q => (by cases q), fun _ q => absurd (hp0.symm.trans q) (by decide)⟩
   ·rw [if_neg h2, if_neg (show ¬ b'.ph = 2 by rw [hbp]; exact h2)]
    exact ⟨⟨h.t, h.s, h.so, h.d, h.who, h.e, h.start, h.tries, h.ph, h.sn, fun q => (by cases q), fun x q => (by cases q; exact ⟨b', rfl, s1⟩)⟩, s2, s3, fun x q => (by cases q; exact s4), fun _ q => absurd (hp0.symm.trans q) (by decide)⟩
def WkR (P : Int → Int → Prop) (fl : Bool) (f : Int → Int) (T T' : Wk) : Prop := match T, T' with
 | .pu k, .pu k' => PuR P fl f k k'
 | .ge k, .ge k' => GeR P fl f k k'
 | .pu _, .ge _ => False
 | .ge _, .pu _ => False
def WkX (N : Nat) (f : Int → Int) (C C' : List Int) (T : Wk) : Prop := match T with
 | .pu k => PuX N f C C' k
 | .ge k => GeX N C k
theorem WkR.more {T T' : Wk} (h : WkR P fl f T T') (hP : ∀ a b, P a b → P2 a b) : WkR P2 fl f T T' := by
 cases T <;> cases T'
 ·exact PuR.more h hP
 ·exact h.elim
 ·exact h.elim
 ·exact GeR.more h hP
theorem WkX.keep {T : Wk} {pl : Pl} (hx : WkX N f C C' T) (hN : pl.N = N) (hk : T.Ok pl C) (hp : T.ph = 0) (h : CKp N f C C' D D') : WkX N f D D' T := by
 subst hN
 cases T with
 | pu k =>
  have hk1 : k.Ok pl.N pl.m pl.nb pl.h0 C := hk
  have c0 := hk1.cl.s0
  have c1 := hk1.cl.s1
  have c2 := hk1.cl.m0
  have c3 := hk1.cl.m1
  exact fun q1 q2 => h.val _ (by omega) (hx q1 q2)
 | ge k =>
  intro a ha q1 q2
  obtain ⟨aok, _⟩ := hk.1.ta hp a ha
  have c0 := aok.s0
  have c1 := aok.s1
  exact h.used _ (by omega) (hx a ha q1 q2)
theorem zIH {k : Pu} {m : Int} {nb hz : Nat} {now : Int} (hk : k.Ok N m nb hz C) (hp : k.ph = 0) (h1 : (k.step m nb hz C now).ph = 1) : (k.step m nb hz C now).tk.ph = 1 := by
 have haf : ∀ (K : Pu) (r : Int), K.ph = 0 → (K.after r).ph ≠ 1 := fun K r q => by
  unfold Pu.after
  split
  ·show K.ph ≠ 1
   rw [q]
   decide
  ·split
   ·show (2 : Int) ≠ 1
    decide
   ·rw [q]
    decide
 unfold Pu.step at h1 ⊢
 rw [if_neg (show ¬ k.ph ≠ 0 from fun q => q hp)] at h1 ⊢
 rcases hk.at' hp with ⟨q, _, _⟩ | ⟨q, _, _⟩ | ⟨q, _, q2⟩ | ⟨q, _, q2⟩
 ·rw [if_pos q] at h1
  exact absurd h1 (haf _ _ hp)
 ·rw [if_neg (by omega), if_pos q] at h1
  exact absurd h1 (haf _ _ hp)
 ·rw [if_neg (by omega), if_neg (by omega), if_pos q] at h1
  exact absurd (hp.symm.trans h1) (by decide)
 ·rw [if_neg (by omega), if_neg (by omega), if_neg (by omega)]
  exact q2
structure WkV (P : Int → Int → Prop) (f : Int → Int) (T T' : Wk) : Prop where
 pu : ∀ k, T = .pu k → ∃ k', T' = .pu k' ∧ P k.tk.lo k'.tk.lo ∧ P k.tk.hi k'.tk.hi
 ge : ∀ k, T = .ge k → ∃ k', T' = .ge k' ∧ k'.val = f k.val
theorem WkR.ph {T T' : Wk} (h : WkR P fl f T T') : T'.ph = T.ph := by
 cases T <;> cases T'
 ·exact PuR.ph h
 ·exact h.elim
 ·exact h.elim
 ·exact GeR.ph h
theorem WkR.step {T T' : Wk} {pl : Pl} {now now' z so : Int} (h : WkR P fl f T T') (hx : WkX N f C C' T) (hC : CR N P fl f C C') (hk : T.Ok pl C) (hk' : T'.Ok pl C') (hN : pl.N = N) (hnb : 2 * N ≤ pl.nb) (hhw : 2 * N ≤ pl.hw) (hso : ∀ k, T = .pu k → k.tk.so = so) (hT : Tm P so now now') (n0 : 0 ≤ now) (n0' : 0 ≤ now') (hf : ∀ i, F64 (C.getD i 0)) (hf' : ∀ i, F64 (C'.getD i 0)) (ha : T.ask C z) (hp : T.ph = 0) :
  T'.ask C' z ∧ WkR P fl f (T.step pl C now z) (T'.step pl C' now' z) ∧ CR N P fl f (T.cells pl C now) (T'.cells pl C' now') ∧ CKp N f C C' (T.cells pl C now) (T'.cells pl C' now') ∧ WkX N f (T.cells pl C now) (T'.cells pl C' now') (T.step pl C now z) ∧ ((T.step pl C now z).ph = 1 → WkV P f (T.step pl C now z) (T'.step pl C' now' z)) := by
 subst hN
 cases T with
 | pu k =>
  cases T' with
  | ge k' => exact h.elim
  | pu k' =>
   have hk1 : k.Ok pl.N pl.m pl.nb pl.h0 C := hk
   have hR : PuR P fl f k k' := h
   obtain ⟨h1, h2, h3, h4⟩ := hR.step hx hC hk1 hk' (by rw [hso k rfl]; exact hT) hnb n0 n0'
   refine ⟨trivial, h1, h2, h3, h4, fun q => ⟨fun k2 e => ?_, fun k2 e => (by cases e)⟩⟩
   cases e
   exact ⟨_, rfl, h1.tk.st (zIH hk1 hp q)⟩
 | ge k =>
  cases T' with
  | pu k' => exact h.elim
  | ge k' =>
   have hR : GeR P fl f k k' := h
   obtain ⟨h1, h2, h3, h4, h5, h6⟩ := hR.step hx hC hk.1 hk'.1 hhw hT.pm hf hf' ha
   refine ⟨h1, h2, h3, h4, h5, fun q => ⟨fun k2 e => (by cases e), fun k2 e => ?_⟩⟩
   cases e
   exact ⟨_, rfl, h6 hp q⟩
end
structure DdR (P : Int → Int → Prop) (fl : Bool) (f : Int → Int) (d d' : Dd) : Prop where
 who : d'.who = d.who
 kd : d'.kd = d.kd
 e : d'.e = flE fl d.e
 x : d'.x = if d.kd = 0 then f d.x else d.x
 s : d'.s = d.s
 fr : d'.fr = d.fr
 till : d'.till = d.till
 ok : d'.ok = d.ok
 v : d'.v = if d.kd = 1 ∧ d.ok = true then f d.v else d.v
 st : d.kd = 0 → d.ok = true → P d.lo d'.lo ∧ P d.hi d'.hi
 no : ¬ (d.kd = 0 ∧ d.ok = true) → d'.lo = d.lo ∧ d'.hi = d.hi
theorem DdR.more {P P2 : Int → Int → Prop} {fl : Bool} {f : Int → Int} {d d' : Dd} (h : DdR P fl f d d') (hP : ∀ a b, P a b → P2 a b) : DdR P2 fl f d d' :=
 ⟨h.who, h.kd, h.e, h.x, h.s, h.fr, h.till, h.ok, h.v, fun a b => ⟨hP _ _ (h.st a b).1, hP _ _ (h.st a b).2⟩, h.no⟩
theorem DdR.over {P : Int → Int → Prop} {fl : Bool} {f : Int → Int} {d d' : Dd} {T T' : Wk} (h : DdR P fl f d d') (m : Nat) (hk : d.kd = kdI T.take) (hok : d.ok = false) (hv : d.v = 0) (hlo : d.lo = 0) (hhi : d.hi = 0) (hph : T'.ph = T.ph) (hV : T.ph = 1 → WkV P f T T') : DdR P fl f (d.over m T) (d'.over m T') := by
 unfold Dd.over
 rw [hph]
 by_cases h1 : T.ph = 1
 ·rw [if_pos h1, if_pos h1]
  have hw := hV h1
  cases T with
  | pu k =>
   obtain ⟨k', rfl, q1, q2⟩ := hw.pu k rfl
   have hk0 : d.kd = 0 := hk
   exact ⟨h.who, h.kd, h.e, h.x, h.s, h.fr, rfl, rfl, by show (0 : Int) = if d.kd = 1 ∧ true = true then _ else 0; rw [if_neg (by omega)], fun _ _ => ⟨q1, q2⟩, fun q => absurd ⟨hk0, rfl⟩ q⟩
  | ge k =>
   obtain ⟨k', rfl, q1⟩ := hw.ge k rfl
   have hk1 : d.kd = 1 := hk
   exact ⟨h.who, h.kd, h.e, h.x, h.s, h.fr, rfl, rfl, by show k'.val = if d.kd = 1 ∧ true = true then f k.val else k.val; rw [if_pos ⟨hk1, rfl⟩]; exact q1, fun q => absurd (show d.kd = 0 from q) (by omega), fun _ => ⟨rfl, rfl⟩⟩
 ·rw [if_neg h1, if_neg h1]
  exact ⟨h.who, h.kd, h.e, h.x, h.s, h.fr, rfl, h.ok, h.v, h.st, h.no⟩
structure YR (P : Int → Int → Prop) (fl : Bool) (f : Int → Int) (N : Nat) (Y Y' : Yd) : Prop where
 C : CR N P fl f Y.C Y'.C
 len : Y'.ts.length = Y.ts.length
 no : ∀ w : Nat, Y.ts[w]? = some none → Y'.ts[w]? = some none
 yes : ∀ (w : Nat) (T : Wk) (i : Nat), Y.ts[w]? = some (some (T, i)) → ∃ T', Y'.ts[w]? = some (some (T', i)) ∧ WkR P fl f T T' ∧ WkX N f Y.C Y'.C T
 moves : Y'.moves = Y.moves
 ds : Y'.ds.length = Y.ds.length
 deed : ∀ (i : Nat) (d : Dd), Y.ds[i]? = some d → ∃ d', Y'.ds[i]? = some d' ∧ DdR P fl f d d'
section
variable {P P2 : Int → Int → Prop} {fl : Bool} {f : Int → Int} {N n n' : Nat} {B : YB} {Y Y' Z Z' : Yd}
theorem YR.more (h : YR P fl f N Y Y') (hP : ∀ a b, P a b → P2 a b) : YR P2 fl f N Y Y' :=
 ⟨h.C.more hP, h.len, h.no, fun w T i hw => by obtain ⟨T', h1, h2, h3⟩ := h.yes w T i hw; exact ⟨T', h1, h2.more hP, h3⟩, h.moves, h.ds, fun i d hd => by obtain ⟨d', h1, h2⟩ := h.deed i d hd; exact ⟨d', h1, h2.more hP⟩⟩
theorem YR.now (h : YR P fl f N Y Y') (hC : Z.C = Y.C) (hts : Z.ts = Y.ts) (hm : Z.moves = Y.moves) (hds : Z.ds = Y.ds) (hC' : Z'.C = Y'.C) (hts' : Z'.ts = Y'.ts) (hm' : Z'.moves = Y'.moves) (hds' : Z'.ds = Y'.ds) : YR P fl f N Z Z' := by
 obtain ⟨C, L, now, moves, ts, ds⟩ := Y
 obtain ⟨C1, L1, now1, moves1, ts1, ds1⟩ := Y'
 obtain ⟨C2, L2, now2, moves2, ts2, ds2⟩ := Z
 obtain ⟨C3, L3, now3, moves3, ts3, ds3⟩ := Z'
 simp only at hC hts hm hds hC' hts' hm' hds'
 subst hC hts hm hds hC' hts' hm' hds'
 exact ⟨h.C, h.len, h.no, h.yes, h.moves, h.ds, h.deed⟩
theorem YR.pass (h : YR P fl f N Y Y') (k k' : Int) : YR P fl f N (Y.pass k) (Y'.pass k') := h.now rfl rfl rfl rfl rfl rfl rfl rfl
theorem YR.passL (h : YR P fl f N Y Y') (k : Int) : YR P fl f N (Y.pass k) Y' := h.now rfl rfl rfl rfl rfl rfl rfl rfl
theorem YR.start (P : Int → Int → Prop) (fl : Bool) (f : Int → Int) (N T : Nat) : YR P fl f N (yd0 N T) (yd0 N T) := by
 have hz : ∀ j, (List.replicate (2 * N + 2 * T) (0 : Int)).getD j 0 = 0 := fun j => gzeros _ _
 refine ⟨⟨rfl, fun j _ => .inl ⟨hz j, hz j⟩, fun j _ => .inl (hz j), fun j _ => rfl, by show 2 * N ≤ (List.replicate (2 * N + 2 * T) (0 : Int)).length; rw [List.length_replicate]; omega⟩, rfl, fun w h => h, fun w T' i hw => ?_, rfl, rfl, fun i d hd => by simp [yd0] at hd⟩
 have hw' : (List.replicate T (none : Option (Wk × Nat)))[w]? = some (some (T', i)) := hw
 rw [List.getElem?_replicate] at hw'
 split at hw' <;> cases hw'
theorem YR.call (h : YR P fl f N Y Y') {w : Nat} (take : Bool) {kd e x x' s : Int} (hk : kdI take = kd) (hx : x' = if kd = 0 then f x else x) (hN0 : 0 < N) : YR P fl f N (Y.call w kd e x s (wkB B N w take e x s)) (Y'.call w kd (flE fl e) x' s (wkB B N w take (flE fl e) x' s)) := by
 refine ⟨h.C, by show (Y'.ts.set w _).length = (Y.ts.set w _).length; rw [List.length_set, List.length_set]; exact h.len, fun v hv => ?_, fun v T i hv => ?_, by show Y'.moves + 1 = Y.moves + 1; rw [h.moves], by show (Y'.ds ++ [_]).length = (Y.ds ++ [_]).length; rw [List.length_append, List.length_append, h.ds]; rfl, fun i d hd => ?_⟩
 ·rcases yset hv with ⟨_, q, _⟩ | ⟨hne, hv2⟩
  ·cases q
  ·show (Y'.ts.set w _)[v]? = _
   rw [List.getElem?_set_ne hne]
   exact h.no v hv2
 ·rcases yset hv with ⟨rfl, q, hl⟩ | ⟨hne, hv2⟩
  ·cases q
   refine ⟨_, by show (Y'.ts.set w _)[w]? = _; rw [List.getElem?_set_self (by rw [h.len]; exact hl), h.ds], ?_, ?_⟩
   ·cases take with
    | false =>
     have hk0 : kd = 0 := hk.symm
     rw [if_pos hk0] at hx
     exact ⟨rfl, rfl, rfl, rfl, rfl, rfl, hx, rfl, rfl, ⟨rfl, rfl, rfl, rfl, rfl, rfl, rfl, rfl, rfl⟩, ⟨rfl, rfl, rfl, rfl, rfl, rfl, rfl, ⟨fun _ => rfl, fun _ => .inl rfl⟩, fun q => absurd (show (0 : Int) = 1 from q) (by decide)⟩⟩
    | true => exact ⟨rfl, rfl, rfl, rfl, rfl, rfl, rfl, rfl, rfl, zFp _ _ _ _ _ _ _, fun _ => rfl, fun a q => by cases q⟩
   ·cases take with
    | false => exact fun _ q => absurd (show (0 : Int) = 3 from q) (by decide)
    | true => exact fun a q => by cases q
  ·obtain ⟨T', h1, h2, h3⟩ := h.yes v T i hv2
   exact ⟨T', by show (Y'.ts.set w _)[v]? = _; rw [List.getElem?_set_ne hne]; exact h1, h2, h3⟩
 ·rcases ysnoc hd with ⟨rfl, rfl⟩ | ⟨_, hd2⟩
  ·refine ⟨_, by show (Y'.ds ++ [_])[Y.ds.length]? = _; rw [← h.ds, List.getElem?_append_right (Nat.le_refl _), Nat.sub_self]; rfl, ?_⟩
   refine ⟨rfl, rfl, rfl, hx, rfl, by show (Y'.moves : Int) = Y.moves; rw [h.moves], rfl, rfl, ?_, fun _ q => (by cases q), fun _ => ⟨rfl, rfl⟩⟩
   show (0 : Int) = if kd = 1 ∧ false = true then _ else 0
   rw [if_neg (fun q => by cases q.2)]
  ·obtain ⟨d', h1, h2⟩ := h.deed i d hd2
   exact ⟨d', by show (Y'.ds ++ [_])[i]? = _; rw [List.getElem?_append_left (List.getElem?_eq_some_iff.1 h1).1]; exact h1, h2⟩
theorem YR.step (h : YR P fl f N Y Y') (ha : YAll B N Y n) (ha' : YAll B N Y' n') (hfi : ∀ j, F64 (Y.C.getD j 0)) (hfi' : ∀ j, F64 (Y'.C.getD j 0)) (hT : Tm P B.so Y.now Y'.now) {w i : Nat} {T : Wk} {z : Int} (hw : Y.ts[w]? = some (some (T, i))) (hz : T.ask Y.C z) :
  ∃ T', Y'.ts[w]? = some (some (T', i)) ∧ T'.ask Y'.C z ∧ YR P fl f N (Y.step (plOf B N w) w T i z) (Y'.step (plOf B N w) w T' i z) := by
 obtain ⟨T', hw', hR, hX⟩ := h.yes w T i hw
 obtain ⟨k1, k2, k3, k4, d0, k5, k6, k7, k8, k9, k10, k11⟩ := ha.ok.task w T i hw
 obtain ⟨j1, j2, j3, j4, d0', j5, _⟩ := ha'.ok.task w T' i hw'
 have hso : ∀ k, T = .pu k → k.tk.so = B.so := fun k e => by
  subst e
  exact (ha.aok.put w k i hw).so'
 obtain ⟨s1, s2, s3, s4, s5, s6⟩ := hR.step (pl := plOf B N w) hX h.C k1 j1 rfl (by show 2 * N ≤ 2 * N + B.T; omega) (by show 2 * N ≤ 2 * N + w; omega) hso hT ha.ok.now0 ha'.ok.now0 hfi hfi' hz k4
 refine ⟨T', hw', s1, ?_⟩
 have hkd := ha.cok.kind w T i d0 hw k5
 have htk : (T.step (plOf B N w) Y.C Y.now z).take = T.take := Wk.take_step
 have hph := s2.ph
 have hCl : (T.cells (plOf B N w) Y.C Y.now).length = Y.C.length := Wk.cells_len
 have hwl : w < Y.ts.length := (List.getElem?_eq_some_iff.1 hw).1
 unfold Yd.step
 generalize T.step (plOf B N w) Y.C Y.now z = T2 at s2 s5 s6 htk hph ⊢
 generalize T'.step (plOf B N w) Y'.C Y'.now z = T2' at s2 s6 hph ⊢
 generalize T.cells (plOf B N w) Y.C Y.now = C2 at s3 s4 s5 hCl ⊢
 generalize T'.cells (plOf B N w) Y'.C Y'.now = C2' at s3 s4 s5 ⊢
 have hrest : ∀ (v : Nat) (U : Wk) (q : Nat), Y.ts[v]? = some (some (U, q)) → WkX N f Y.C Y'.C U → WkX N f C2 C2' U := fun v U q hv hx => by
  obtain ⟨u1, _, _, u4, _⟩ := ha.ok.task v U q hv
  exact hx.keep (pl := plOf B N v) rfl u1 u4 s4
 have hmv : Y'.moves + 1 = Y.moves + 1 := by rw [h.moves]
 rw [hph]
 by_cases hp : T2.ph = 0
 ·rw [if_pos hp, if_pos hp, if_pos hp, if_pos hp]
  refine ⟨s3, by show (Y'.ts.set w _).length = (Y.ts.set w _).length; rw [List.length_set, List.length_set]; exact h.len, fun v hv => ?_, fun v U q hv => ?_, hmv, h.ds, h.deed⟩
  ·rcases yset hv with ⟨_, q, _⟩ | ⟨hne, hv2⟩
   ·cases q
   ·show (Y'.ts.set w _)[v]? = _
    rw [List.getElem?_set_ne hne]
    exact h.no v hv2
  ·rcases yset hv with ⟨rfl, e, hl⟩ | ⟨hne, hv2⟩
   ·cases e
    exact ⟨T2', by show (Y'.ts.set w _)[w]? = _; rw [List.getElem?_set_self (by rw [h.len]; exact hl)], s2, s5⟩
   ·obtain ⟨U', u1, u2, u3⟩ := h.yes v U q hv2
    exact ⟨U', by show (Y'.ts.set w _)[v]? = _; rw [List.getElem?_set_ne hne]; exact u1, u2, hrest v U q hv2 u3⟩
 ·rw [if_neg hp, if_neg hp, if_neg hp, if_neg hp]
  refine ⟨s3, by show (Y'.ts.set w _).length = (Y.ts.set w _).length; rw [List.length_set, List.length_set]; exact h.len, fun v hv => ?_, fun v U q hv => ?_, hmv, by show (Y'.ds.modify i _).length = (Y.ds.modify i _).length; rw [List.length_modify, List.length_modify]; exact h.ds, fun q d hd => ?_⟩
  ·rcases yset hv with ⟨rfl, _, hl⟩ | ⟨hne, hv2⟩
   ·show (Y'.ts.set w _)[w]? = _
    rw [List.getElem?_set_self (by rw [h.len]; exact hl)]
   ·show (Y'.ts.set w _)[v]? = _
    rw [List.getElem?_set_ne hne]
    exact h.no v hv2
  ·rcases yset hv with ⟨_, e, _⟩ | ⟨hne, hv2⟩
   ·cases e
   ·obtain ⟨U', u1, u2, u3⟩ := h.yes v U q hv2
    exact ⟨U', by show (Y'.ts.set w _)[v]? = _; rw [List.getElem?_set_ne hne]; exact u1, u2, hrest v U q hv2 u3⟩
  ·rcases ymod hd with ⟨rfl, d1, hd1, rfl⟩ | ⟨hne, hd2⟩
   ·rw [k5] at hd1
    cases hd1
    obtain ⟨d', h1, h2⟩ := h.deed i d0 k5
    refine ⟨_, by show (Y'.ds.modify i _)[i]? = _; exact zBM h1, ?_⟩
    rw [h.moves]
    exact h2.over Y.moves (by rw [htk]; exact hkd) k8 k9 k10 k11 hph s6
   ·obtain ⟨d', h1, h2⟩ := h.deed q d hd2
    exact ⟨d', by show (Y'.ds.modify i _)[q]? = _; rw [zBe hne]; exact h1, h2⟩
def CM.tw (fl : Bool) (f : Int → Int) (m : CM) : CM := if m.k = 0 then { m with ce := flE fl m.ce, v := if m.ck = 0 then f m.v else m.v } else m
def CM.goes (m : CM) (Y : Yd) : Prop := ∃ (k : Nat) (b : Wk × Nat), m.k = 1 ∧ m.who = k ∧ Y.ts[k]? = some (some b)
theorem YR.pdo {m : CM} (h : YR P fl f N Y Y') (ha : YAll B N Y n) (ha' : YAll B N Y' n') (hfi : ∀ j, F64 (Y.C.getD j 0)) (hfi' : ∀ j, F64 (Y'.C.getD j 0)) (hT : m.goes Y → Tm P B.so Y.now Y'.now) (hbT : (B.T : Int) = B.t) (hN0 : 0 < N) {a a' : Int} (d : PDo B N m Y Z a) (d' : PDo B N (m.tw fl f) Y' Z' a') :
  YR P fl f N Z Z' ∧ a = a' ∧ ((m.k ≠ 2 ∧ ((¬ m.goes Y ∧ Z.now = Y.now ∧ Z'.now = Y'.now) ∨ (m.goes Y ∧ Z.now = Y.tick ∧ Z'.now = Y'.tick))) ∨ (m.k = 2 ∧ ((0 < m.n ∧ Z = Y.pass m.n ∧ Z' = Y'.pass m.n) ∨ (Z = Y ∧ Z' = Y')))) := by
 have hlen := ha.ok.len
 have go : ∀ {X' : Yd} {b : Int}, PDo B N (m.tw fl f) Y' X' b → Z' = X' ∧ a' = b := fun q => d'.det q ha'.ok hbT hfi'
 have tk : (m.tw fl f).k = m.k := by unfold CM.tw; split <;> rfl
 have tw : (m.tw fl f).who = m.who := by unfold CM.tw; split <;> rfl
 have ng : m.k ≠ 1 → ¬ m.goes Y := fun q ⟨_, _, q1, _⟩ => q q1
 have tn : (m.tw fl f).n = m.n := by unfold CM.tw; split <;> rfl
 have tas : m.k = 0 → ((m.tw fl f).asks ↔ m.asks) := fun k0 => by
  unfold CM.tw CM.asks
  rw [if_pos k0]
  show (m.ck = 0 ∨ m.ck = 1) ∧ (flE fl m.ce = 0 ∨ flE fl m.ce = 1) ↔ _
  have : (flE fl m.ce = 0 ∨ flE fl m.ce = 1) ↔ (m.ce = 0 ∨ m.ce = 1) := by
   unfold flE
   cases fl
   ·exact Iff.rfl
   ·show (1 - m.ce = 0 ∨ 1 - m.ce = 1) ↔ _
    omega
  rw [this]
 cases d with
 | out k0 hw =>
  obtain ⟨rfl, rfl⟩ := go (.out (tk.trans k0) (by rw [tw, tas k0]; exact hw))
  exact ⟨h, rfl, .inl ⟨by omega, .inl ⟨ng (by omega), rfl, rfl⟩⟩⟩
 | busy k b k0 hw has hb =>
  obtain ⟨T', h1, _⟩ := h.yes k b.1 b.2 hb
  obtain ⟨rfl, rfl⟩ := go (.busy k _ (tk.trans k0) (tw.trans hw) ((tas k0).2 has) h1)
  exact ⟨h, rfl, .inl ⟨by omega, .inl ⟨ng (by omega), rfl, rfl⟩⟩⟩
 | call k take k0 hw hk he hq =>
  have e1 : (m.tw fl f).ck = m.ck := by unfold CM.tw; rw [if_pos k0]
  have e2 : (m.tw fl f).ce = flE fl m.ce := by unfold CM.tw; rw [if_pos k0]
  have e3 : (m.tw fl f).v = if m.ck = 0 then f m.v else m.v := by unfold CM.tw; rw [if_pos k0]
  have e4 : (m.tw fl f).st = m.st := by unfold CM.tw; rw [if_pos k0]
  obtain ⟨rfl, rfl⟩ := go (.call k take (tk.trans k0) (tw.trans hw) (hk.trans e1.symm) (by rw [e2]; exact flE_ok he) (h.no k hq))
  rw [e1, e2, e3, e4]
  exact ⟨h.call take hk rfl hN0, rfl, .inl ⟨by omega, .inl ⟨ng (by omega), rfl, rfl⟩⟩⟩
 | none k0 hn =>
  obtain ⟨rfl, rfl⟩ := go (.none (tk.trans k0) (fun k hk b hb => by
   rw [tw] at hk
   have hl := (List.getElem?_eq_some_iff.1 hb).1
   rw [h.len] at hl
   cases hq : Y.ts[k]? with
   | none => exact absurd (List.getElem?_eq_none_iff.1 hq) (by omega)
   | some o =>
    cases o with
    | none =>
     rw [h.no k hq] at hb
     cases hb
    | some b' => exact hn k hk b' hq))
  exact ⟨h, rfl, .inl ⟨by omega, .inl ⟨fun ⟨k, b, _, q1, q2⟩ => hn k q1.symm b q2, rfl, rfl⟩⟩⟩
 | step k T i z k0 hw hq hz =>
  obtain ⟨T', h1, h2, h3⟩ := h.step ha ha' hfi hfi' (hT ⟨k, _, k0, hw, hq⟩) hq hz
  obtain ⟨rfl, rfl⟩ := go (.step k T' i z (tk.trans k0) (tw.trans hw) h1 h2)
  exact ⟨h3, rfl, .inl ⟨by omega, .inr ⟨⟨k, _, k0, hw, hq⟩, rfl, rfl⟩⟩⟩
 | pass k0 hn =>
  obtain ⟨rfl, rfl⟩ := go (.pass (tk.trans k0) (by rw [tn]; exact hn))
  rw [tn]
  exact ⟨h.pass _ _, rfl, .inr ⟨k0, .inl ⟨hn, rfl, rfl⟩⟩⟩
 | still k0 hn =>
  obtain ⟨rfl, rfl⟩ := go (.still (tk.trans k0) (by rw [tn]; exact hn))
  exact ⟨h, rfl, .inr ⟨k0, .inr ⟨rfl, rfl⟩⟩⟩
 | other k0 k1 k2 =>
  obtain ⟨rfl, rfl⟩ := go (.other (by rw [tk]; exact k0) (by rw [tk]; exact k1) (by rw [tk]; exact k2))
  exact ⟨h, rfl, .inl ⟨k2, .inl ⟨ng k1, rfl, rfl⟩⟩⟩
end
end
section
open Go.RowKit
section
variable {B B' : YB} {N n m : Nat} {Y Y' : Nat → Yd} {S : List CM} {A A' : List Int} {fl : Bool} {f : Int → Int}
theorem zIh {Z : Yd} : Z.tick ≤ Z.now + 1 := by
 unfold Yd.tick
 have e : yMax = 1099511627776 := rfl
 split <;> omega
theorem zIZ {Z : Yd} {k : Int} (hk : 0 < k) : (Z.pass k).now ≤ Z.now + k := by
 show (if k > yMax - Z.now then yMax else Z.now + k) ≤ _
 split <;> omega
theorem PTr.now (h : PTr B N S Y A) (hn : ∀ m ∈ S, m.k = 2 → m.n ≤ 32768) : ∀ i, i ≤ S.length → (Y i).now ≤ 32768 * i
 | 0, _ => by
  rw [h.tr.zero]
  show (0 : Int) ≤ _
  omega
 | i + 1, hi => by
  have ih := PTr.now h hn i (by omega)
  obtain ⟨m, hm⟩ : ∃ m, S[i]? = some m := ⟨_, List.getElem?_eq_getElem (by omega)⟩
  obtain ⟨a, ha⟩ : ∃ a, A[i]? = some a := ⟨_, List.getElem?_eq_getElem (by rw [h.len]; omega)⟩
  have hd := h.at' i m a hm ha
  have hmn := hn m (List.mem_of_getElem? hm)
  generalize Y (i + 1) = Z at hd ⊢
  cases hd with
  | out => omega
  | busy => omega
  | call k take h hw hk he hq => show (Y i).now ≤ _; omega
  | none => omega
  | step k T q z => show (Y i).tick ≤ _; have := zIh (Z := Y i); omega
  | pass k0 hk => have := zIZ (Z := Y i) hk; have := hmn k0; omega
  | still => omega
  | other => omega
end
end
section
open Go.RowKit
section
variable {B B' : YB} {N n m : Nat} {Y Y' : Nat → Yd} {S : List CM} {A A' : List Int} {fl : Bool} {f : Int → Int}
theorem YHow.like {Z Z' : Yd} (h : YHow B N Z Z') (hB : B.like B') : YHow B' N Z Z' := by
 obtain ⟨yb, tb, p, c, t, s, so, d, T⟩ := B
 obtain ⟨yb', tb', p', c', t', s', so', d', T'⟩ := B'
 obtain ⟨h1, h2, h3, h4, h5⟩ := hB
 simp only at h1 h2 h3 h4 h5
 subst h1 h2 h3 h4 h5
 cases h with
 | rest => exact .rest
 | call w take kd e x s hw he hk => exact .call w take kd e x s hw he hk
 | step w T i z hw ha => exact .step w T i z hw ha
 | pass n hn => exact .pass n hn
theorem YTr.like (h : YTr B N Y m) (hB : B.like B') : YTr B' N Y m := by
 have hw := fun i hi => (h.how i hi).like hB
 obtain ⟨yb, tb, p, c, t, s, so, d, T⟩ := B
 obtain ⟨yb', tb', p', c', t', s', so', d', T'⟩ := B'
 obtain ⟨h1, h2, h3, h4, h5⟩ := hB
 simp only at h1 h2 h3 h4 h5
 subst h1 h2 h3 h4 h5
 exact ⟨h.zero, hw, h.mv, h.fit, ⟨h.cf.lay, h.cf.o0, h.cf.o1, h.cf.d0, h.cf.d1⟩, h.hT, h.few⟩
theorem PTr.like (h : PTr B N S Y A) (hB : B.like B') : PTr B' N S Y A := ⟨h.tr.like hB, h.len, fun i m a h1 h2 => (h.at' i m a h1 h2).like hB⟩
theorem pm_eq : PM (fun a b : Int => a = b) := fun a a' b b' h1 h2 => by
 have e1 : a = a' := h1
 have e2 : b = b' := h2
 rw [e1, e2]
theorem zBv {x : Int} (h : x < 16777215) : low x = x := by unfold low; omega
theorem PTr.twin (h : PTr B N S Y A) (h' : PTr B' N (S.map (CM.tw fl f)) Y' A') (hB : B'.like B) (hn : ∀ m ∈ S, m.k = 2 → m.n ≤ 32768) (hl : S.length ≤ 300) : ∀ i, i ≤ S.length → YR (fun a b => a = b) fl f N (Y i) (Y' i) ∧ (Y' i).now = (Y i).now := by
 have h2 := h'.like hB
 have hS' : (S.map (CM.tw fl f)).length = S.length := List.length_map _
 have hN0 : 0 < N := by have := h.tr.cf.lay.n1; have := h.tr.cf.lay.t1; omega
 intro i
 induction i with
 | zero =>
  intro _
  rw [h.tr.zero, h2.tr.zero]
  exact ⟨YR.start _ fl f N B.T, rfl⟩
 | succ i ih =>
  intro hi
  obtain ⟨i1, i2⟩ := ih (by omega)
  obtain ⟨m, hm⟩ : ∃ m, S[i]? = some m := ⟨_, List.getElem?_eq_getElem (by omega)⟩
  obtain ⟨a, ha⟩ : ∃ a, A[i]? = some a := ⟨_, List.getElem?_eq_getElem (by rw [h.len]; omega)⟩
  obtain ⟨a', ha'⟩ : ∃ a, A'[i]? = some a := ⟨_, List.getElem?_eq_getElem (by rw [h2.len, hS']; omega)⟩
  have d1 := h.at' i m a hm ha
  have d2 := h2.at' i (m.tw fl f) a' (by rw [List.getElem?_map, hm]; rfl) ha'
  have hnow := h.now hn i (by omega)
  have n0 := (h.tr.all i (by omega)).ok.now0
  have hT : Tm (fun a b => a = b) B.so (Y i).now (Y' i).now := ⟨pm_eq, fun _ _ => rfl, fun _ => ⟨by rw [i2], by rw [zBv (by omega)]; omega, by rw [i2, zBv (by omega)]; omega⟩⟩
  obtain ⟨r1, r2, r3⟩ := i1.pdo (h.tr.all i (by omega)) (h2.tr.all i (by omega)) (h.tr.fit i (by omega)) (h2.tr.fit i (by omega)) (fun _ => hT) h.tr.hT hN0 d1 d2
  refine ⟨r1, ?_⟩
  rcases r3 with ⟨_, ⟨_, e1, e2⟩ | ⟨_, e1, e2⟩⟩ | ⟨_, ⟨_, e1, e2⟩ | ⟨e1, e2⟩⟩
  ·rw [e1, e2, i2]
  ·rw [e1, e2]
   unfold Yd.tick
   rw [i2]
  ·rw [e1, e2]
   show (if m.n > yMax - (Y' i).now then yMax else (Y' i).now + m.n) = if m.n > yMax - (Y i).now then yMax else (Y i).now + m.n
   rw [i2]
  ·rw [e1, e2, i2]
end
def noPass (S : List CM) : List CM := S.filter (fun m => decide (m.k ≠ 2))
theorem zAp (S : List CM) (m : CM) : noPass (S ++ [m]) = noPass S ++ (if m.k = 2 then [] else [m]) := by
 unfold noPass
 rw [List.filter_append]
 congr 1
 by_cases e : m.k = 2
 ·rw [if_pos e]
  simp [e]
 ·rw [if_neg e]
  simp [e]
theorem zF6 {S : List CM} {i : Nat} {m : CM} (h : S[i]? = some m) (hk : m.k ≠ 2) : (noPass S)[(noPass (S.take i)).length]? = some m ∧ (noPass (S.take (i + 1))).length = (noPass (S.take i)).length + 1 := by
 have e : S.take (i + 1) = S.take i ++ [m] := by rw [List.take_add_one, h]; rfl
 constructor
 ·have e2 : S = S.take i ++ (m :: S.drop (i + 1)) := by
   have hi := (List.getElem?_eq_some_iff.1 h).1
   have hg := (List.getElem?_eq_some_iff.1 h).2
   rw [← hg, ← List.drop_eq_getElem_cons hi, List.take_append_drop]
  have e3 : noPass S = noPass (S.take i) ++ (m :: noPass (S.drop (i + 1))) := by
   have : noPass S = noPass (S.take i ++ (m :: S.drop (i + 1))) := congrArg noPass e2
   rw [this]
   unfold noPass
   rw [List.filter_append, List.filter_cons, if_pos (by simp [hk])]
  rw [e3, List.getElem?_append_right (Nat.le_refl _), Nat.sub_self]
  rfl
 ·rw [e, zAp, if_neg hk, List.length_append, List.length_singleton]
theorem zEI {S : List CM} {i : Nat} {m : CM} (h : S[i]? = some m) (hk : m.k = 2) : (noPass (S.take (i + 1))).length = (noPass (S.take i)).length := by
 have e : S.take (i + 1) = S.take i ++ [m] := by rw [List.take_add_one, h]; rfl
 rw [e, zAp, if_pos hk, List.append_nil]
theorem zCO (S : List CM) (i : Nat) : (noPass (S.take i)).length ≤ (noPass S).length ∧ (noPass (S.take i)).length ≤ i := by
 constructor
 ·unfold noPass
  exact ((List.take_sublist i S).filter _).length_le
 ·unfold noPass
  have := List.length_filter_le (fun m : CM => decide (m.k ≠ 2)) (S.take i)
  rw [List.length_take] at this
  omega
theorem tw_id (m : CM) : m.tw false id = m := by
 unfold CM.tw
 split
 ·obtain ⟨k, who, ck, ce, v, st, n⟩ := m
  show CM.mk k who ck ce (if ck = 0 then v else v) st n = _
  split <;> rfl
 ·rfl
def PL (L : List (Int × Int)) (a a' : Int) : Prop := (a, a') ∈ L
section
variable {B B' : YB} {N : Nat} {Y Y' : Nat → Yd} {S : List CM} {A A' : List Int}
def TimeR (so : Int) (N : Nat) (Z Z' : Yd) : Prop := (so < 3 ∧ YR (fun a b => a = b) false id N Z Z') ∨ (3 ≤ so ∧ ∃ L, PM (PL L) ∧ (∀ p ∈ L, p.1 < Z.now ∧ p.2 < Z'.now) ∧ YR (PL L) false id N Z Z')
theorem PTr.times (h : PTr B N S Y A) (h' : PTr B' N (noPass S) Y' A') (hB : B'.like B) (hn : ∀ m ∈ S, m.k = 2 → m.n ≤ 32768) (hl : S.length ≤ 300) : ∀ i, i ≤ S.length → TimeR B.so N (Y i) (Y' (noPass (S.take i)).length) := by
 have h2 := h'.like hB
 have hN0 : 0 < N := by have := h.tr.cf.lay.n1; have := h.tr.cf.lay.t1; omega
 intro i
 induction i with
 | zero =>
  intro _
  rw [List.take_zero]
  show TimeR B.so N (Y 0) (Y' 0)
  rw [h.tr.zero, h2.tr.zero]
  rcases (by omega : B.so < 3 ∨ 3 ≤ B.so) with ho | ho
  ·exact .inl ⟨ho, YR.start _ false id N B.T⟩
  ·exact .inr ⟨ho, [], fun a a' b b' q => (by cases q), fun p q => (by cases q), YR.start _ false id N B.T⟩
 | succ i ih =>
  intro hi
  have i1 := ih (by omega)
  obtain ⟨m, hm⟩ : ∃ m, S[i]? = some m := ⟨_, List.getElem?_eq_getElem (by omega)⟩
  obtain ⟨a, ha⟩ : ∃ a, A[i]? = some a := ⟨_, List.getElem?_eq_getElem (by rw [h.len]; omega)⟩
  have d1 := h.at' i m a hm ha
  obtain ⟨l1, l2⟩ := zCO S i
  by_cases hk : m.k = 2
  ·rw [zEI hm hk]
   generalize Y' (noPass (S.take i)).length = Z' at i1 ⊢
   have hZ : Y (i + 1) = Y i ∨ ∃ k, 0 < k ∧ Y (i + 1) = (Y i).pass k := by
    generalize Y (i + 1) = Z at d1 ⊢
    cases d1 with
    | out k0 => omega
    | busy k b k0 => omega
    | call k take k0 => omega
    | none k0 => omega
    | step k T q z k0 => omega
    | pass k0 hq => exact .inr ⟨m.n, hq, rfl⟩
    | still => exact .inl rfl
    | other k0 k1 k2 => exact absurd hk k2
   rcases hZ with e | ⟨k, hk0, e⟩
   ·rw [e]
    exact i1
   ·rw [e]
    rcases i1 with ⟨o, r⟩ | ⟨o, L, p1, p2, r⟩
    ·exact .inl ⟨o, r.passL k⟩
    ·refine .inr ⟨o, L, p1, fun p hp => ⟨?_, (p2 p hp).2⟩, r.passL k⟩
     have q1 := (p2 p hp).1
     have q2 := (h.tr.all i (by omega)).ok.now1
     show p.1 < if k > yMax - (Y i).now then yMax else (Y i).now + k
     split <;> omega
  ·obtain ⟨e1, e2⟩ := zF6 hm hk
   have hjl := (List.getElem?_eq_some_iff.1 e1).1
   rw [e2]
   generalize hj : (noPass (S.take i)).length = j at *
   obtain ⟨a', ha'⟩ : ∃ a, A'[j]? = some a := ⟨_, List.getElem?_eq_getElem (by rw [h2.len]; omega)⟩
   have d2 := h2.at' j m a' e1 ha'
   have d2' : PDo B N (m.tw false id) (Y' j) (Y' (j + 1)) a' := by rw [tw_id]; exact d2
   have hnow := h.now hn i (by omega)
   have hnow' := h2.now (fun x hx => hn x (List.mem_filter.1 hx).1) j (by omega)
   have A1 := h.tr.all i (by omega)
   have A2 := h2.tr.all j (by omega)
   have n0 := A1.ok.now0
   have n0' := A2.ok.now0
   have hall : ∀ {P : Int → Int → Prop}, YR P false id N (Y i) (Y' j) → (m.goes (Y i) → Tm P B.so (Y i).now (Y' j).now) → _ := fun {P} r hT => r.pdo A1 A2 (h.tr.fit i (by omega)) (h2.tr.fit j (by omega)) hT h.tr.hT hN0 d1 d2'
   rcases i1 with ⟨o, r⟩ | ⟨o, L, p1, p2, r⟩
   ·obtain ⟨r1, _, _⟩ := hall r (fun _ => ⟨pm_eq, fun _ _ => rfl, fun q => by omega⟩)
    exact .inl ⟨o, r1⟩
   ·refine .inr ⟨o, ?_⟩
    by_cases hg : m.goes (Y i)
    ·have hPM : PM (PL (L ++ [((Y i).now, (Y' j).now)])) := by
      intro x x' y y' hx hy
      rcases List.mem_append.1 hx with hx | hx
      ·rcases List.mem_append.1 hy with hy | hy
       ·exact p1 x x' y y' hx hy
       ·cases List.mem_singleton.1 hy
        have := p2 _ hx
        omega
      ·cases List.mem_singleton.1 hx
       rcases List.mem_append.1 hy with hy | hy
       ·have := p2 _ hy
        simp only at this
        omega
       ·cases List.mem_singleton.1 hy
        omega
     obtain ⟨r1, _, r3⟩ := hall (r.more (P2 := PL (L ++ [((Y i).now, (Y' j).now)])) (fun x y hxy => List.mem_append_left _ hxy)) (fun _ => ⟨hPM, fun q => by omega, fun _ => ⟨by rw [zBv (by omega), zBv (by omega)]; exact List.mem_append_right _ List.mem_cons_self, by rw [zBv (by omega)]; omega, by rw [zBv (by omega)]; omega⟩⟩)
     rcases r3 with ⟨_, ⟨q, _⟩ | ⟨_, q1, q2⟩⟩ | ⟨q, _⟩
     ·exact absurd hg q
     ·refine ⟨_, hPM, fun p hp => ?_, r1⟩
      rw [q1, q2]
      have t1 : (Y i).tick = (Y i).now + 1 := by unfold Yd.tick; rw [if_pos (by have : yMax = 1099511627776 := rfl; omega)]
      have t2 : (Y' j).tick = (Y' j).now + 1 := by unfold Yd.tick; rw [if_pos (by have : yMax = 1099511627776 := rfl; omega)]
      rw [t1, t2]
      rcases List.mem_append.1 hp with hp | hp
      ·have := p2 p hp
       omega
      ·rw [List.mem_singleton.1 hp]
       simp only
       omega
     ·exact absurd q hk
    ·obtain ⟨r1, _, r3⟩ := hall r (fun q => absurd q hg)
     rcases r3 with ⟨_, ⟨_, q1, q2⟩ | ⟨q, _⟩⟩ | ⟨q, _⟩
     ·exact ⟨L, p1, fun p hp => by rw [q1, q2]; exact p2 p hp, r1⟩
     ·exact absurd q hg
     ·exact absurd q hk
end
end
end Go.Proofs.YtpfjommkjkbonabGreat
