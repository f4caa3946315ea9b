/- Contracts and plain lemmas that these laws need. No condition. -/
import Derived.Deep.CutBlock
import Derived.Deep.DeepCutAuto
import Derived.Test.YtebgjfhaolgcjaaGreatQLA1
import Derived.Test.YtebgjfhaolgcjaaGreatQLA7
import Derived.Test.YtebgjfhaolgcjaaGreatQLA8
namespace Go.Proofs.YtebgjfhaolgcjaaGreat
set_option linter.unusedVariables false
set_option maxHeartbeats 8000000
set_option maxRecDepth 100000
section
open Go.RowKit
instance (m : CM) : Decidable m.Right := by unfold CM.Right CM.beg CM.stp CM.pas; infer_instance
def CM.list (m : CM) : List Value := [i64 m.k, i64 m.who, i64 m.ck, i64 m.ce, u64 m.v, i64 m.st, i64 m.n]
abbrev CM.val (m : CM) : Value := .agg #[.int .i64 m.k, .int .i64 m.who, .int .i64 m.ck, .int .i64 m.ce, .int .u64 m.v, .int .i64 m.st, .int .i64 m.n]
abbrev CM.obj (m : CM) (T : TypeId) : Obj := .cells #[.int .i64 m.k, .int .i64 m.who, .int .i64 m.ck, .int .i64 m.ce, .int .u64 m.v, .int .i64 m.st, .int .i64 m.n] T
abbrev CM.call (m : CM) : Value := .agg #[.int .i64 m.ck, .int .i64 m.ce, .int .u64 m.v, .int .i64 m.st]
theorem zAh (x : Int) (b : Bool) (hb : decide (0 ≤ x ∧ x < 64) = b) (w : World) :
  Calls Tryz.prog 49 #[i64 x] w fun r w' => r = .returned (.bool b) ∧ w = w' := by
 by_cases h0 : 0 ≤ x
 ·by_cases h1 : x < 64
  ·obtain rfl : b = true := by rw [← hb]; exact decide_eq_true ⟨h0, h1⟩
   clear hb
   go_enter Tryz.func49, Tryz.ntmps49
   go_wp2
   go_ret
   exact ⟨rfl, rfl⟩
  ·obtain rfl : b = false := by rw [← hb]; exact decide_eq_false (fun h => h1 h.2)
   clear hb
   go_enter Tryz.func49, Tryz.ntmps49
   go_wp2
   go_ret
   exact ⟨rfl, rfl⟩
 ·obtain rfl : b = false := by rw [← hb]; exact decide_eq_false (fun h => h0 h.1)
  clear hb
  go_enter Tryz.func49, Tryz.ntmps49
  go_wp2
  go_ret
  exact ⟨rfl, rfl⟩
theorem zBC (ck ce v s : Int) (b : Bool) (hb : b = true ↔ (ck = 0 ∨ ck = 1) ∧ (ce = 0 ∨ ce = 1)) (w : World) :
  Calls Tryz.prog 70 #[.agg #[.int .i64 ck, .int .i64 ce, .int .u64 v, .int .i64 s]] w fun r w' => r = .returned (.bool b) ∧ Below w.heap.size w w' := by
 have HB := zIW (zAA (Below.refl w.heap.size w) (.cells #[.int .i64 ck, .int .i64 ce, .int .u64 v, .int .i64 s] 37))
 have yes : (ck = 0 ∨ ck = 1) ∧ (ce = 0 ∨ ce = 1) → b = true := hb.2
 have no : ¬ ((ck = 0 ∨ ck = 1) ∧ (ce = 0 ∨ ce = 1)) → b = false := fun h => by
  cases b
  ·rfl
  ·exact absurd (hb.1 rfl) h
 clear hb
 by_cases h1 : ck = 0 ∨ ck = 1
 ·by_cases h2 : ce = 0 ∨ ce = 1
  ·rw [yes ⟨h1, h2⟩]
   clear yes no
   rcases h1 with rfl | rfl <;> rcases h2 with rfl | rfl
   all_goals
    go_enter Tryz.func70, Tryz.ntmps70
    go_wp2_with fail
    go_ret
    exact ⟨rfl, HB.out⟩
  ·rw [no (fun h => h2 h.2)]
   have p1 : (ce == 0) = false := beq_false_of_ne (fun e => h2 (.inl e))
   have p2 : (ce == 1) = false := beq_false_of_ne (fun e => h2 (.inr e))
   clear yes no h2
   rcases h1 with rfl | rfl
   all_goals
    go_enter Tryz.func70, Tryz.ntmps70
    go_wp2_with fail
    go_ret
    exact ⟨rfl, HB.out⟩
 ·rw [no (fun h => h1 h.1)]
  have p1 : (ck == 0) = false := beq_false_of_ne (fun e => h1 (.inl e))
  have p2 : (ck == 1) = false := beq_false_of_ne (fun e => h1 (.inr e))
  clear yes no h1
  go_enter Tryz.func70, Tryz.ntmps70
  go_wp2_with fail
  go_ret
  exact ⟨rfl, HB.out⟩
def fitsC (ck ce v s : Int) : Prop := (ce = 0 ∨ ce = 1) ∧ ((ck = 0 ∧ s = 0) ∨ (ck = 1 ∧ v = 0 ∧ 0 ≤ s ∧ s ≤ 255))
theorem zDX (ck ce v s : Int) (b : Bool) (hb : b = true ↔ fitsC ck ce v s) (w : World) :
  Calls Tryz.prog 50 #[.agg #[.int .i64 ck, .int .i64 ce, .int .u64 v, .int .i64 s]] w fun r w' => r = .returned (.bool b) ∧ Below w.heap.size w w' := by
 have HB := zIW (zAA (Below.refl w.heap.size w) (.cells #[.int .i64 ck, .int .i64 ce, .int .u64 v, .int .i64 s] 37))
 have yes : fitsC ck ce v s → b = true := hb.2
 have no : ¬ fitsC ck ce v s → b = false := fun h => by
  cases b
  ·rfl
  ·exact absurd (hb.1 rfl) h
 clear hb
 by_cases h : (ck = 0 ∨ ck = 1) ∧ (ce = 0 ∨ ce = 1)
 ·obtain ⟨h1 | h1, h2⟩ := h
  ·subst h1
   have hbb : b = decide (s = 0) := by
    by_cases e : s = 0
    ·rw [decide_eq_true e]
     exact yes ⟨h2, .inl ⟨rfl, e⟩⟩
    ·rw [decide_eq_false e]
     exact no (fun h => by have := h.2; omega)
   rw [hbb]
   clear yes no hbb
   have h2' := zIW h2
   clear h2
   go_enter Tryz.func50, Tryz.ntmps50
   go_wp2_with fail
   refine (zBC 0 ce v s true ⟨fun _ => ⟨.inl rfl, h2'.out⟩, fun _ => rfl⟩ _).mono ?_
   rintro r w2 ⟨rfl, hb⟩
   have HB2 := zIW (zAD HB.out hb)
   obtain ⟨hc, hf⟩ := bcell hb
   clear HB hb
   go_wp2
   go_ret
   refine ⟨?_, HB2.out⟩
   rfl
  ·subst h1
   have HB2 : ∀ w2, Below (w.alloc (.cells #[.int .i64 1, .int .i64 ce, .int .u64 v, .int .i64 s] 37)).heap.size (w.alloc (.cells #[.int .i64 1, .int .i64 ce, .int .u64 v, .int .i64 s] 37)) w2 → Below w.heap.size w w2 := fun w2 h => zAD HB.out h
   have HBB := zIW HB2
   have hno : fitsC 1 ce v s ↔ v = 0 ∧ 0 ≤ s ∧ s ≤ 255 := ⟨fun h => by have := h.2; omega, fun h => ⟨h2, .inr ⟨rfl, h⟩⟩⟩
   rw [hno] at yes no
   have h2' := zIW h2
   clear h2 HB HB2 hno
   have ways : (v = 0 ∧ 0 ≤ s ∧ s ≤ 255 ∧ b = true) ∨ (v = 0 ∧ 0 ≤ s ∧ ¬ s ≤ 255 ∧ b = false) ∨ (v = 0 ∧ ¬ 0 ≤ s ∧ b = false) ∨ (¬ v = 0 ∧ b = false) := by
    by_cases w1 : v = 0
    ·by_cases w2 : 0 ≤ s
     ·by_cases w3 : s ≤ 255
      ·exact .inl ⟨w1, w2, w3, yes ⟨w1, w2, w3⟩⟩
      ·exact .inr (.inl ⟨w1, w2, w3, no (fun q => w3 q.2.2)⟩)
     ·exact .inr (.inr (.inl ⟨w1, w2, no (fun q => w2 q.2.1)⟩))
    ·exact .inr (.inr (.inr ⟨w1, no (fun q => w1 q.1)⟩))
   clear yes no
   rcases ways with ⟨rfl, y2, y3, rfl⟩ | ⟨rfl, y2, y3, rfl⟩ | ⟨rfl, y2, rfl⟩ | ⟨y1, rfl⟩
   all_goals
    go_enter Tryz.func50, Tryz.ntmps50
    go_wp2_with fail
    refine (zBC 1 ce _ s true ⟨fun _ => ⟨.inr rfl, h2'.out⟩, fun _ => rfl⟩ _).mono ?_
    rintro r w2 ⟨rfl, hb⟩
    have HB2 := zIW (HBB.out _ hb)
    obtain ⟨hc, hf⟩ := bcell hb
    clear HBB hb
    go_wp2
    go_ret
    first
     | exact ⟨rfl, HB2.out⟩
     | exact ⟨congrArg (fun b => Ending.returned (.bool b)) (decide_eq_false (by omega)), HB2.out⟩
     | exact ⟨congrArg (fun b => Ending.returned (.bool b)) (decide_eq_true (by omega)), HB2.out⟩
 ·rw [no (fun hh => h ⟨by have := hh.2; omega, hh.1⟩)]
  have h' := zIW h
  clear yes no h
  go_enter Tryz.func50, Tryz.ntmps50
  go_wp2_with fail
  refine (zBC ck ce v s false ⟨(fun q => by cases q), fun q => absurd q h'.out⟩ _).mono ?_
  rintro r w2 ⟨rfl, hb⟩
  have HB2 := zIW (zAD HB.out hb)
  clear HB hb
  go_wp2
  go_ret
  exact ⟨rfl, HB2.out⟩
theorem zCU (m : CM) (w : World) : Calls Tryz.prog 18 #[m.val] w fun r w' => r = .returned (.bool (decide m.Right)) ∧ Below w.heap.size w w' := by
 obtain ⟨k, who, ck, ce, v, s, n⟩ := m
 have HB := zIW (zAA (Below.refl w.heap.size w) ((⟨k, who, ck, ce, v, s, n⟩ : CM).obj 39))
 have yes : (⟨k, who, ck, ce, v, s, n⟩ : CM).Right → decide (⟨k, who, ck, ce, v, s, n⟩ : CM).Right = true := decide_eq_true
 have no : ¬ (⟨k, who, ck, ce, v, s, n⟩ : CM).Right → decide (⟨k, who, ck, ce, v, s, n⟩ : CM).Right = false := decide_eq_false
 unfold CM.val at *
 simp only
 generalize decide (⟨k, who, ck, ce, v, s, n⟩ : CM).Right = b at yes no ⊢
 unfold CM.Right CM.beg CM.stp CM.pas at yes no
 simp only at yes no
 by_cases k0 : k = 0
 ·subst k0
  by_cases hw : 0 ≤ who ∧ who < 64
  ·by_cases hn : n = 0
   ·subst hn
    have hbb : b = true ↔ fitsC ck ce v s := by
     unfold fitsC
     constructor
     ·intro hb
      by_cases q : (ce = 0 ∨ ce = 1) ∧ ((ck = 0 ∧ s = 0) ∨ (ck = 1 ∧ v = 0 ∧ 0 ≤ s ∧ s ≤ 255))
      ·exact q
      ·rw [no (by omega)] at hb
       cases hb
     ·intro q
      exact yes (by omega)
    have HBB := zIW hbb
    have HW := zIW hw
    clear yes no hbb hw
    go_enter Tryz.func18, Tryz.ntmps18
    go_wp2_with fail
    refine (zAh who true (decide_eq_true HW.out) _).mono ?_
    rintro r w2 ⟨rfl, rfl⟩
    go_wp2_with fail
    refine (zDX ck ce v s b HBB.out _).mono ?_
    rintro r w2 ⟨rfl, hb⟩
    have HB2 := zIW (zAD HB.out hb)
    clear HB hb
    go_wp2
    go_ret
    exact ⟨rfl, HB2.out⟩
   ·rw [no (by omega)]
    have pn : (n == 0) = false := beq_false_of_ne hn
    have HW := zIW hw
    clear yes no hw
    go_enter Tryz.func18, Tryz.ntmps18
    go_wp2_with fail
    refine (zAh who true (decide_eq_true HW.out) _).mono ?_
    rintro r w2 ⟨rfl, rfl⟩
    go_wp2
    go_ret
    exact ⟨rfl, HB.out⟩
  ·rw [no (by omega)]
   have HW := zIW hw
   clear yes no hw
   go_enter Tryz.func18, Tryz.ntmps18
   go_wp2_with fail
   refine (zAh who false (decide_eq_false HW.out) _).mono ?_
   rintro r w2 ⟨rfl, rfl⟩
   go_wp2
   go_ret
   exact ⟨rfl, HB.out⟩
 ·have pk0 : (k == 0) = false := beq_false_of_ne k0
  by_cases k1 : k = 1
  ·subst k1
   by_cases hw : 0 ≤ who ∧ who < 64
   ·by_cases hz : ck = 0 ∧ ce = 0 ∧ v = 0 ∧ s = 0 ∧ n = 0
    ·obtain ⟨rfl, rfl, rfl, rfl, rfl⟩ := hz
     rw [yes (by omega)]
     have HW := zIW hw
     clear yes no hw k0
     go_enter Tryz.func18, Tryz.ntmps18
     go_wp2_with fail
     refine (zAh who true (decide_eq_true HW.out) _).mono ?_
     rintro r w2 ⟨rfl, rfl⟩
     go_wp2
     go_ret
     exact ⟨rfl, HB.out⟩
    ·rw [no (by omega)]
     have HW := zIW hw
     clear yes no hw k0
     rcases (by omega : ¬ ck = 0 ∨ (ck = 0 ∧ ¬ ce = 0) ∨ (ck = 0 ∧ ce = 0 ∧ ¬ v = 0) ∨ (ck = 0 ∧ ce = 0 ∧ v = 0 ∧ ¬ s = 0) ∨ (ck = 0 ∧ ce = 0 ∧ v = 0 ∧ s = 0 ∧ ¬ n = 0)) with c | ⟨rfl, c⟩ | ⟨rfl, rfl, c⟩ | ⟨rfl, rfl, rfl, c⟩ | ⟨rfl, rfl, rfl, rfl, c⟩
     all_goals
      clear hz
      go_enter Tryz.func18, Tryz.ntmps18
      go_wp2_with fail
      refine (zAh who true (decide_eq_true HW.out) _).mono ?_
      rintro r w2 ⟨rfl, rfl⟩
      go_wp2
      go_ret
      exact ⟨rfl, HB.out⟩
   ·rw [no (by omega)]
    have HW := zIW hw
    clear yes no hw k0
    go_enter Tryz.func18, Tryz.ntmps18
    go_wp2_with fail
    refine (zAh who false (decide_eq_false HW.out) _).mono ?_
    rintro r w2 ⟨rfl, rfl⟩
    go_wp2
    go_ret
    exact ⟨rfl, HB.out⟩
  ·have pk1 : (k == 1) = false := beq_false_of_ne k1
   by_cases k2 : k = 2
   ·subst k2
    by_cases hn1 : 1 ≤ n
    ·by_cases hn2 : n ≤ 65535
     ·by_cases hz : who = 0 ∧ ck = 0 ∧ ce = 0 ∧ v = 0 ∧ s = 0
      ·obtain ⟨rfl, rfl, rfl, rfl, rfl⟩ := hz
       rw [yes (by omega)]
       clear yes no k0 k1
       go_enter Tryz.func18, Tryz.ntmps18
       go_wp2
       go_ret
       exact ⟨rfl, HB.out⟩
      ·rw [no (by omega)]
       clear yes no k0 k1
       rcases (by omega : ¬ who = 0 ∨ (who = 0 ∧ ¬ ck = 0) ∨ (who = 0 ∧ ck = 0 ∧ ¬ ce = 0) ∨ (who = 0 ∧ ck = 0 ∧ ce = 0 ∧ ¬ v = 0) ∨ (who = 0 ∧ ck = 0 ∧ ce = 0 ∧ v = 0 ∧ ¬ s = 0)) with c | ⟨rfl, c⟩ | ⟨rfl, rfl, c⟩ | ⟨rfl, rfl, rfl, c⟩ | ⟨rfl, rfl, rfl, rfl, c⟩
       all_goals
        clear hz
        go_enter Tryz.func18, Tryz.ntmps18
        go_wp2
        go_ret
        exact ⟨rfl, HB.out⟩
     ·rw [no (by omega)]
      clear yes no k0 k1
      go_enter Tryz.func18, Tryz.ntmps18
      go_wp2
      go_ret
      exact ⟨rfl, HB.out⟩
    ·rw [no (by omega)]
     clear yes no k0 k1
     go_enter Tryz.func18, Tryz.ntmps18
     go_wp2
     go_ret
     exact ⟨rfl, HB.out⟩
   ·have pk2 : (k == 2) = false := beq_false_of_ne k2
    rw [no (by omega)]
    clear yes no k0 k1 k2
    go_enter Tryz.func18, Tryz.ntmps18
    go_wp2
    go_ret
    exact ⟨rfl, HB.out⟩
end
section
open Go.RowKit
abbrev u8 (b : Int) : Value := .int .u8 b
abbrev Own8 (w : World) (base : Nat) (v : Value) (L : List Int) : Prop := w.ownsRow base 5 1 v L.length (L.map u8)
structure Wrote (base : Nat) (w w' : World) (v v' : Value) (L' : List Int) : Prop where
 own : Own8 w' base v' L'
 keep : Keep (fun k => v.ownBlock = some k) w w'
 moved : Moved w v v'
section
variable {base : Nat} {w w1 w' : World} {v v1 v' : Value} {L L1 L' : List Int}
theorem Wrote.refl (h : Own8 w base v L) : Wrote base w w v v L := ⟨h, Keep.refl _ _, zBK _ _⟩
theorem Wrote.trans (h : Wrote base w w1 v v1 L1) (k : Wrote base w1 w' v1 v' L') : Wrote base w w' v v' L' :=
 ⟨k.own, h.keep.then' k.keep (fun i hi => h.moved i hi), h.moved.trans k.moved h.keep.size⟩
theorem Wrote.ahead (hb : Below w.heap.size w w1) (h : Wrote base w1 w' v v' L') : Wrote base w w' v v' L' :=
 ⟨h.own, (Keep.of_below hb).trans h.keep, fun k hk => (h.moved k hk).imp id (fun hl => Nat.le_trans hb.size hl)⟩
theorem Wrote.later (h : Wrote base w w1 v v' L') (hb : Below w1.heap.size w1 w') : Wrote base w w' v v' L' :=
 ⟨(Keep.of_below (T := fun _ => False) hb).row h.own (fun _ _ h => h), h.keep.trans (Keep.of_below hb), h.moved⟩
theorem Own8.later (h : Own8 w base v L) (hb : Below w.heap.size w w') : Own8 w' base v L := (Keep.of_below (T := fun _ => False) hb).row h (fun _ _ h => h)
theorem Wrote.obj {b : Nat} {xs : List Value} (h : Wrote base w w' v v' L') (ho : IsObj w b xs) (hn : v.ownBlock ≠ some b) : IsObj w' b xs := ho.keep h.keep hn
end
theorem Wrote.at' {base : Nat} {w w1 : World} {v v1 : Value} {L1 : List Int} {n : Nat} (h : Wrote base w w1 v v1 L1) (hn : L1.length = n) : w1.ownsRow base 5 1 v1 n (L1.map u8) := hn ▸ h.own
end
section
open Go.RowKit
def IsAt (w : World) (A : Option Addr) (xs : List Value) : Prop :=
 0 < xs.length → ∃ b off, A = some ⟨b, off, none⟩ ∧ b < w.heap.size ∧ ∀ j u, xs[j]? = some u → w.cell? ⟨b, off + j, none⟩ = some u
section
variable {w w' : World} {A : Option Addr} {xs ys : List Value}
theorem IsAt.later (h : IsAt w A xs) (e : Below w.heap.size w w') : IsAt w' A xs := fun hp => by
 obtain ⟨b, off, h1, h2, h3⟩ := h hp
 exact ⟨b, off, h1, Nat.lt_of_lt_of_le h2 e.size, fun j u hj => (e.cell (p := ⟨b, off + j, none⟩) h2).trans (h3 j u hj)⟩
theorem IsAt.nil (w : World) (A : Option Addr) : IsAt w A [] := fun h => absurd h (by simp)
theorem IsAt.left (h : IsAt w A (xs ++ ys)) : IsAt w A xs := fun hp => by
 obtain ⟨b, off, h1, h2, h3⟩ := h (by rw [List.length_append]; omega)
 exact ⟨b, off, h1, h2, fun j u hj => h3 j u (by rw [List.getElem?_append_left (List.getElem?_eq_some_iff.1 hj).1]; exact hj)⟩
theorem IsAt.own {base : Nat} {e : TypeId} {sz n cap : Nat} (h : w.ownsRow base e sz (.slice A n cap) n xs) : IsAt w A xs := fun hp => by
 rcases h.2 with ⟨hv, h0⟩ | ⟨g, cap', cur, hv, hb, hh, hc, _⟩
 ·have := h.1
  rw [h0, Nat.zero_mul] at this
  omega
 ·cases hv
  refine ⟨g, 0, rfl, (h.lt g rfl).2, fun j u hj => ?_⟩
  rw [Nat.zero_add, h.cellAt j (by have := (List.getElem?_eq_some_iff.1 hj).1; have := h.1; omega)]
  exact hj
theorem IsAt.src {n sz : Nat} (h : IsAt w A xs) (hl : xs.length = n * sz) (hs : 0 < sz) (h1 : ∀ u ∈ xs, u.oneCell' = true) : Src w sz A n xs := by
 refine ⟨fun hA => ?_, hl, fun ad had j u hj => ?_, h1⟩
 ·rcases Nat.eq_zero_or_pos n with h0 | h0
  ·exact h0
  ·obtain ⟨b, off, h2, _⟩ := h (by rw [hl]; exact Nat.mul_pos h0 hs)
   rw [hA] at h2
   cases h2
 ·obtain ⟨b, off, h2, _, h4⟩ := h (by have := (List.getElem?_eq_some_iff.1 hj).1; omega)
  rw [had] at h2
  cases h2
  rw [zAt]
  exact h4 j u hj
end
def flatM : List CM → List Value
 | [] => []
 | m :: l => m.list ++ flatM l
theorem zAw : ∀ a b : List CM, flatM (a ++ b) = flatM a ++ flatM b
 | [], _ => rfl
 | m :: a, b => by simp [flatM, zAw a b]
theorem zBt : ∀ l : List CM, (flatM l).length = l.length * 7
 | [] => rfl
 | m :: l => by simp only [flatM, List.length_append, List.length_cons, zBt l, CM.list, List.length_nil]; omega
theorem CM.one (m : CM) (u : Value) (h : u ∈ m.list) : u.oneCell' = true := by
 simp only [CM.list, List.mem_cons, List.not_mem_nil, or_false] at h
 rcases h with rfl | rfl | rfl | rfl | rfl | rfl | rfl <;> rfl
theorem zEk : ∀ {l : List CM} {i j : Nat} {m : CM}, l[i]? = some m → j < 7 → (flatM l)[i * 7 + j]? = m.list[j]?
 | [], i, j, m, h, hj => by simp at h
 | e :: l, 0, j, m, h, hj => by
  cases h
  rw [flatM, Nat.zero_mul, Nat.zero_add, List.getElem?_append_left (by exact hj)]
 | e :: l, i + 1, j, m, h, hj => by
  rw [List.getElem?_cons_succ] at h
  rw [flatM, List.getElem?_append_right (by show 7 ≤ _; omega), show (i + 1) * 7 + j - e.list.length = i * 7 + j by show (i + 1) * 7 + j - 7 = _; omega]
  exact zEk h hj
theorem zEO : ElemAt Tryz.prog 27 39 (.agg #[.int .i64 0, .int .i64 0, .int .i64 0, .int .i64 0, .int .u64 0, .int .i64 0, .int .i64 0]) 7 56 :=
 ElemAt.mk' Tryz.underlying27 (by kernel_rfl) rfl (by decide)
structure AtCM (w : World) (b o : Nat) (m : CM) : Prop where
 c0 : w.cell? ⟨b, o, none⟩ = some (i64 m.k)
 c1 : w.cell? ⟨b, o + 1, none⟩ = some (i64 m.who)
 c2 : w.cell? ⟨b, o + 2, none⟩ = some (i64 m.ck)
 c3 : w.cell? ⟨b, o + 3, none⟩ = some (i64 m.ce)
 c4 : w.cell? ⟨b, o + 4, none⟩ = some (u64 m.v)
 c5 : w.cell? ⟨b, o + 5, none⟩ = some (i64 m.st)
 c6 : w.cell? ⟨b, o + 6, none⟩ = some (i64 m.n)
theorem IsAt.move {w : World} {A : Option Addr} {ms : List CM} (h : IsAt w A (flatM ms)) {i : Nat} {m : CM} (hi : ms[i]? = some m) : ∃ b off, A = some ⟨b, off, none⟩ ∧ b < w.heap.size ∧ AtCM w b (off + i * 7) m := by
 have hil := (List.getElem?_eq_some_iff.1 hi).1
 obtain ⟨b, off, h1, h2, h3⟩ := h (by rw [zBt]; omega)
 have key : ∀ j u, j < 7 → m.list[j]? = some u → w.cell? ⟨b, off + i * 7 + j, none⟩ = some u := fun j u hj hu => by
  have := h3 (i * 7 + j) u (by rw [zEk hi hj]; exact hu)
  rw [← Nat.add_assoc] at this
  exact this
 exact ⟨b, off, h1, h2, key 0 _ (by decide) rfl, key 1 _ (by decide) rfl, key 2 _ (by decide) rfl, key 3 _ (by decide) rfl, key 4 _ (by decide) rfl, key 5 _ (by decide) rfl, key 6 _ (by decide) rfl⟩
inductive EncIs (w' : World) (base : Nat) (t s so d : Int) (ms : List CM) : Value → Int → Prop
 | conf (h : rightC t s so d = false) : EncIs w' base t s so d ms (.slice none 0 0) 1
 | many (h : rightC t s so d = true) (hn : 65536 < ms.length) : EncIs w' base t s so d ms (.slice none 0 0) 7
 | arg (h : rightC t s so d = true) (hn : ms.length ≤ 65536) (hm : ∃ m ∈ ms, ¬ m.Right) : EncIs w' base t s so d ms (.slice none 0 0) 1
 | ok (h : rightC t s so d = true) (hn : ms.length ≤ 65536) (hm : ∀ m ∈ ms, m.Right) (v : Value) (ho : Own8 w' base v ([t, s, so, d] ++ encs ms)) : EncIs w' base t s so d ms v 0
end
section
open Go.RowKit
def rdCall : List Int → Option (Int × Int × Int × Int × Nat)
 | [] => none
 | how :: r => if how % 2 = 0 then (if 8 ≤ r.length then some (how % 2, how / 2, un8 (r.take 8), 0, 9) else none) else match r with
  | [] => none
  | s :: _ => some (how % 2, how / 2, 0, s, 2)
def rdMove : List Int → Option (CM × Nat)
 | [] => none
 | k :: r => if k = 0 then (match r with
   | [] => none
   | who :: r2 => match rdCall r2 with
    | none => none
    | some (ck, ce, v, s, n) => some (⟨0, who, ck, ce, v, s, 0⟩, n + 2))
  else if k = 1 then (match r with
   | [] => none
   | who :: _ => some (⟨1, who, 0, 0, 0, 0, 0⟩, 2))
  else if k = 2 then (if 2 ≤ r.length then some (⟨2, 0, 0, 0, 0, 0, un8 (r.take 2)⟩, 3) else none)
  else some (⟨k, 0, 0, 0, 0, 0, 0⟩, 1)
end
section
open Go.RowKit
section
variable {P : Program} {ops : Array Oper} {Q : Exit → Act → World → Prop} {S : World → Prop}
end
end
section
open Go.RowKit
def Byt (l : List Int) : Prop := ∀ b ∈ l, 0 ≤ b ∧ b ≤ 255
abbrev rdL (A : Option Addr) (l : List Int) (cap at' : Nat) (sh : Bool) : List Value := [.slice A l.length cap, i64 at', .bool sh]
structure RdIn (w : World) (rb : Nat) (A : Option Addr) (l : List Int) (cap at' : Nat) (sh : Bool) : Prop where
 obj : IsObj w rb (rdL A l cap at' sh)
 row : IsAt w A (l.map u8)
 cap : l.length ≤ cap
 apart : ∀ b off, A = some ⟨b, off, none⟩ → b ≠ rb
 le : at' ≤ l.length
 byt : Byt l
 few : l.length ≤ 1000000
section
variable {w w' : World} {rb : Nat} {A : Option Addr} {l : List Int} {cap at' : Nat} {sh : Bool}
theorem RdIn.later (h : RdIn w rb A l cap at' sh) (e : Below w.heap.size w w') : RdIn w' rb A l cap at' sh :=
 ⟨h.obj.later e, h.row.later e, h.cap, h.apart, h.le, h.byt, h.few⟩
theorem RdIn.keep {T : Nat → Prop} (h : RdIn w rb A l cap at' sh) (k : Keep T w w') (h1 : ¬ T rb) (h2 : ∀ b off, A = some ⟨b, off, none⟩ → 0 < l.length → ¬ T b) : RdIn w' rb A l cap at' sh :=
 ⟨h.obj.keep k h1, fun hp => by
  obtain ⟨b, off, g1, g2, g3⟩ := h.row hp
  rw [List.length_map] at hp
  exact ⟨b, off, g1, Nat.lt_of_lt_of_le g2 k.size, fun j u hj => k.cell (g3 j u hj) (h2 b off g1 hp)⟩, h.cap, h.apart, h.le, h.byt, h.few⟩
theorem RdIn.old (h : RdIn w rb A l cap at' sh) : ∀ b off, A = some ⟨b, off, none⟩ → 0 < l.length → b < w.heap.size := fun b off hA hp => by
 obtain ⟨b', off', g1, g2, _⟩ := h.row (by rw [List.length_map]; exact hp)
 rw [hA] at g1
 cases g1
 exact g2
theorem RdIn.turn (h : RdIn w rb A l cap at' sh) {a2 : Nat} {s2 : Bool} (k : Keep (· = rb) w w') (ho : IsObj w' rb (rdL A l cap a2 s2)) (hl : a2 ≤ l.length) : RdIn w' rb A l cap a2 s2 :=
 ⟨ho, fun hp => by
  obtain ⟨b, off, h1, h2, h3⟩ := h.row hp
  exact ⟨b, off, h1, Nat.lt_of_lt_of_le h2 k.size, fun j u hj => k.cell (h3 j u hj) (h.apart b off h1)⟩, h.cap, h.apart, hl, h.byt, h.few⟩
end
def NumIs (w : World) (rb : Nat) (A : Option Addr) (l : List Int) (cap at' : Nat) (sh : Bool) (n : Nat) (x : Int) (w' : World) : Prop :=
 Keep (· = rb) w w' ∧ ((l.length < at' + n ∧ x = 0 ∧ RdIn w' rb A l cap at' true) ∨ (at' + n ≤ l.length ∧ x = un8 ((l.drop at').take n) ∧ RdIn w' rb A l cap (at' + n) sh))
def CallIs (w : World) (rb : Nat) (A : Option Addr) (l : List Int) (cap at' : Nat) (sh : Bool) (ck ce v s : Int) (w' : World) : Prop :=
 Keep (· = rb) w w' ∧ ∃ a2 s2, RdIn w' rb A l cap a2 s2 ∧ ((s2 = true ∧ (sh = true ∨ rdCall (l.drop at') = none)) ∨ (s2 = sh ∧ ∃ n, rdCall (l.drop at') = some (ck, ce, v, s, n) ∧ a2 = at' + n))
end
section
open Go.RowKit
theorem RdIn.other {w : World} {rb : Nat} {A : Option Addr} {l : List Int} {cap at' : Nat} {sh : Bool} (h : RdIn w rb A l cap at' sh) {b n : Nat} (i : Nat) (u : Value) (hb : b ≠ rb) (hn : n ≤ b) (ho : ∀ b off, A = some ⟨b, off, none⟩ → 0 < l.length → b < n) : RdIn (w.setCell ⟨b, i, none⟩ u) rb A l cap at' sh :=
 h.keep (T := (· = b)) (Keep.setCell (T := (· = b)) (Keep.refl _ _) ⟨b, i, none⟩ rfl u) (fun e => hb e.symm) (fun b' off hA hp e => by have := ho b' off hA hp; omega)
structure MvAt (w wx : World) (rb mb ob : Nat) (A : Option Addr) (l : List Int) (cap at' : Nat) (m : CM) (a3 : Nat) (s3 : Bool) : Prop where
 keep : Keep (fun q => q = rb) w wx
 rd : RdIn wx rb A l cap a3 s3
 obj : IsObj wx mb [i64 m.k, i64 m.who, i64 m.ck, i64 m.ce, u64 m.v, i64 m.st, i64 m.n]
 res : IsObj wx ob [i64 0, i64 0, i64 0, i64 0, u64 0, i64 0, i64 0]
 is : (s3 = true ∧ rdMove (l.drop at') = none) ∨ (s3 = false ∧ ∃ n, rdMove (l.drop at') = some (m, n) ∧ a3 = at' + n)
def MoveIs (w : World) (rb : Nat) (A : Option Addr) (l : List Int) (cap at' : Nat) (m : CM) (ok : Bool) (w' : World) : Prop :=
 Keep (· = rb) w w' ∧ ∃ a2 s2, RdIn w' rb A l cap a2 s2 ∧ ((ok = false ∧ ∀ (m' : CM) (r : List Int), m'.Good → l.drop at' ≠ m'.enc ++ r) ∨ (ok = true ∧ s2 = false ∧ m.Good ∧ ∃ r, l.drop at' = m.enc ++ r ∧ a2 = at' + m.enc.length))
end
section
open Go.RowKit
theorem Hold.cdSet {W w : World} {l : List Thing} {b : Nat} {xs : List Value} (h : Hold W w l) (i : Nat) (hi : l[i]? = some (tObj W.heap.size b xs)) (j : Nat) (u : Value) : Hold W (w.setCell ⟨b, j, none⟩ u) (l.set i (tObj W.heap.size b (xs.set j u))) := by
 have ho : IsObj w b xs ∧ W.heap.size ≤ b := h.has i _ hi
 exact h.turn i hi (Keep.setCell (T := fun q => q = b) (Keep.refl _ _) ⟨b, j, none⟩ rfl u) (zAV _ _ _) ⟨ho.1.set j u, ho.2⟩ (fun q hq => .inl hq)
theorem zEM (w : World) (c : Nat) (m : CM) (hb : c = w.heap.size) : Src (w.alloc (m.obj 39)) 7 (some ⟨c, 0, none⟩) 1 m.list := by
 subst hb
 exact zCy w m.list _ 7 1 rfl m.one
abbrev scV (t s so d : Int) (v : Value) : Value := .agg #[.int .i64 t, .int .i64 s, .int .i64 so, .int .i64 d, v]
inductive DecPost (w' : World) (base : Nat) (l : List Int) : Value → Int → Int → Prop
 | short (h : l.length < 4) : DecPost w' base l (scV 0 0 0 0 (.slice none 0 0)) l.length 3
 | conf (t s so d : Int) (r : List Int) (h : l = t :: s :: so :: d :: r) (hr : rightC t s so d = false) : DecPost w' base l (scV 0 0 0 0 (.slice none 0 0)) 0 1
 | bad (t s so d : Int) (r : List Int) (n e : Int) (h : l = t :: s :: so :: d :: r) (hr : rightC t s so d = true) (hd : DecIs r [] n e) (he : e ≠ 0) : DecPost w' base l (scV 0 0 0 0 (.slice none 0 0)) (n + 4) e
 | ok (t s so d : Int) (r : List Int) (ms : List CM) (A : Option Addr) (cp : Nat) (h : l = t :: s :: so :: d :: r) (hr : rightC t s so d = true) (hd : DecIs r ms r.length 0) (ho : w'.ownsRow base 39 7 (.slice A ms.length cp) ms.length (flatM ms)) : DecPost w' base l (scV t s so d (.slice A ms.length cp)) l.length 0
structure DcH (W w : World) (ob sb rb : Nat) (A : Option Addr) (l : List Int) (cap at' : Nat) (t s so d : Int) (A1 : Option Addr) (cp1 : Nat) (ms : List CM) : Prop where
 h : Hold W w [tObj W.heap.size ob [i64 0, i64 0, i64 0, i64 0, .slice none 0 0], tObj W.heap.size sb [i64 t, i64 s, i64 so, i64 d, .slice A1 ms.length cp1], tRow W.heap.size 39 7 (.slice A1 ms.length cp1) ms.length (flatM ms), tObj W.heap.size rb (rdL A l cap at' false)]
 le : at' ≤ l.length
 is : l.drop 4 = encs ms ++ l.drop at'
 at4 : at' = 4 + (encs ms).length
 good : ∀ m ∈ ms, m.Good
 few : ms.length ≤ 65536
end
section
open Go.RowKit
theorem zHp {W w : World} {l : List Thing} {B : YB} {Y : Yd} {J : Nat → Nat} {n N : Nat} (h : YdL W w l B N Y J n) (hn : n < 1000000) (m : CM) (hf : m.Fit) :
  Calls Tryz.prog 42 #[pt B.yb, m.val] w fun r w' => ∃ a l' J' Y', r = .returned (i64 a) ∧ PDo B N m Y Y' a ∧ YdL W w' l' B N Y' J' (n + 1) ∧ YGo Y Y' l l' J J' := by
 obtain ⟨k, who, ck, ce, x, s, mn⟩ := m
 have HY := zIW (h.later (zAA (Below.refl w.heap.size w) ((⟨k, who, ck, ce, x, s, mn⟩ : CM).obj 39)))
 have HO := zIW (IsObj.made w [.int .i64 k, .int .i64 who, .int .i64 ck, .int .i64 ce, .int .u64 x, .int .i64 s, .int .i64 mn] 39)
 have HF := zIW (show 0 ≤ x ∧ x ≤ 18446744073709551615 from hf)
 have HT := zIW h.hT
 clear h hf
 unfold CM.val
 simp only
 rcases (by omega : k = 0 ∨ k = 1 ∨ k = 2 ∨ (k ≠ 0 ∧ k ≠ 1 ∧ k ≠ 2)) with rfl | rfl | rfl | ⟨h0, h1, h2⟩
 ·by_cases hw : who < 0 ∨ B.t ≤ who
  ·obtain ⟨v, vd, X, hA⟩ := HY.out.h
   have HA := zIW hA
   have HW := zIW hw
   clear hA hw
   go_enter Tryz.func42, Tryz.ntmps42
   go_wp2_with fail
   refine (zGH HA.out who HW.out ck ce x s).mono ?_
   rintro r w' ⟨rfl, hb⟩
   have HZ := zIW (HY.out.later hb)
   clear hb HA HY HO
   go_wp2
   go_ret
   exact ⟨1, l, J, Y, rfl, .out rfl (HW.out.elim .inl (fun h => .inr (.inl h))), HZ.out.next hn .rest HZ.out.h, YGo.refl _ _ _⟩
  ·obtain ⟨q, rfl⟩ : ∃ q : Nat, who = q := ⟨who.toNat, by omega⟩
   have hqT : q < B.T := by have := HT.out; omega
   by_cases ha : (ck = 0 ∨ ck = 1) ∧ (ce = 0 ∨ ce = 1)
   ·obtain ⟨take, hk⟩ : ∃ take : Bool, kdI take = ck := by
     rcases ha.1 with h | h
     ·exact ⟨false, h.symm⟩
     ·exact ⟨true, h.symm⟩
    have HK := zIW hk
    have HAs := zIW ha
    clear hk ha hw
    go_enter Tryz.func42, Tryz.ntmps42
    go_wp2_with fail
    refine (HY.out.call hn q hqT take HK.out ce x s HAs.out.2 HF.out.1 HF.out.2).mono ?_
    rintro r w' ⟨l', J', Y', hd, hg, h3⟩
    have HD := zIW hd
    have HG := zIW hg
    clear hd hg HY HO
    rcases h3 with ⟨rfl, rfl, a, hq⟩ | ⟨rfl, hq, rfl⟩
    ·have HQ := zIW hq
     clear hq
     go_wp2
     go_ret
     exact ⟨2, l', J', _, rfl, .busy q a rfl rfl HAs.out HQ.out, HD.out, HG.out⟩
    ·have HQ := zIW hq
     clear hq
     go_wp2
     go_ret
     exact ⟨0, l', J', _, rfl, .call q take rfl rfl HK.out HAs.out.2 HQ.out, HD.out, HG.out⟩
   ·obtain ⟨v, vd, X, hA⟩ := HY.out.h
    have HA := zIW hA
    have HAs := zIW ha
    clear hA ha hw
    go_enter Tryz.func42, Tryz.ntmps42
    go_wp2_with fail
    refine (zEL HA.out q hqT ck ce x s HAs.out).mono ?_
    rintro r w' ⟨rfl, hb⟩
    have HZ := zIW (HY.out.later hb)
    clear hb HA HY HO
    go_wp2
    go_ret
    exact ⟨1, l, J, Y, rfl, .out rfl (.inr (.inr HAs.out)), HZ.out.next hn .rest HZ.out.h, YGo.refl _ _ _⟩
 ·skip
  go_enter Tryz.func42, Tryz.ntmps42
  go_wp2_with fail
  refine (zDj HY.out.cf HY.out.h HY.out.ok hn who).mono ?_
  rintro r w1 ⟨b, l', J', Y', rfl, hl', hg, h3⟩
  have HL := zIW hl'
  have HG := zIW hg
  have H3 := zIW h3
  clear hl' hg h3 HO
  cases b with
  | false =>
   go_wp2
   go_ret
   rcases H3.out with ⟨_, h4, h5⟩ | ⟨h4, _⟩
   ·have hL := HL.out
    have hG := HG.out
    rw [h4] at hL hG
    exact ⟨5, l', J', Y, rfl, .none rfl h5, HY.out.next hn .rest hL, hG⟩
   ·cases h4
  | true =>
   go_wp2
   go_ret
   rcases H3.out with ⟨h4, _⟩ | ⟨_, k, T, i, z, h5, h6, h7, h8⟩
   ·cases h4
   ·have hL := HL.out
    have hG := HG.out
    rw [h8] at hL hG
    exact ⟨0, l', J', _, rfl, .step k T i z rfl h5.symm h6 h7, HY.out.next hn (.step k T i z h6 h7) hL, hG⟩
 ·have n0 := HY.out.ok.now0
  have n1 := HY.out.ok.now1
  obtain ⟨v, vd, X, hA⟩ := HY.out.h
  have HA := zIW hA
  clear hA
  rcases (by omega : mn ≤ 0 ∨ 0 < mn) with hm0 | hm0
  ·skip
   go_enter Tryz.func42, Tryz.ntmps42
   go_wp2_with fail
   refine (zFF HA.out mn hm0).mono ?_
   rintro r w1 ⟨rfl, rfl⟩
   clear HA HO
   go_wp2
   go_ret
   exact ⟨0, l, J, Y, rfl, .still rfl (by show ¬ 0 < mn; omega), HY.out.next hn .rest HY.out.h, YGo.refl _ _ _⟩
  ·skip
   go_enter Tryz.func42, Tryz.ntmps42
   go_wp2_with fail
   refine (zB5 HA.out mn hm0 n0 n1).mono ?_
   rintro r w1 ⟨rfl, l', hl', hle, hke⟩
   have HL := zIW hl'
   have HG : Hid (YGo Y (Y.pass mn) l l' J J) := zIW (zIQ hle hke)
   clear hl' hle hke HA HO
   go_wp2
   go_ret
   exact ⟨0, l', J, _, rfl, .pass rfl hm0, HY.out.next hn (.pass mn hm0) ⟨_, _, _, HL.out⟩, HG.out⟩
 ·have e0 : (k == 0) = false := beq_false_of_ne h0
  have e1 : (k == 1) = false := beq_false_of_ne h1
  have e2 : (k == 2) = false := beq_false_of_ne h2
  have H0 := zIW (And.intro h0 (And.intro h1 h2))
  clear h0 h1 h2 HO
  go_enter Tryz.func42, Tryz.ntmps42
  go_wp2_with fail
  go_ret
  exact ⟨1, l, J, Y, rfl, .other H0.out.1 H0.out.2.1 H0.out.2.2, HY.out.next hn .rest HY.out.h, YGo.refl _ _ _⟩
section
variable {W w w' : World} {l l' : List Thing} {B : YB} {Y Y' : Yd} {J J' : Nat → Nat} {n n' N : Nat}
theorem YdL.turnRow (h : YdL W w l B N Y J n) {j : Nat} {A A' : Thing} (hr : Rest Y l J j A) (hl : Hold W w' (l.set j A')) : YdL W w' (l.set j A') B N Y J n ∧ Rest Y (l.set j A') J j A' :=
 ⟨⟨h.h.other hl (fun i C hi hf => by rw [List.getElem?_set_ne (fun e => by subst e; exact hf hr.free)]; exact hi), h.ok, h.len, h.cf, h.hT⟩, List.getElem?_set_self (List.getElem?_eq_some_iff.1 hr.at').1, hr.free⟩
end
theorem IsObj.rowOf {w : World} {base g n : Nat} {e : TypeId} {xs : List Value} (h : w.ownsRow base e 1 (.slice (some ⟨g, 0, none⟩) n n) n xs) (hl : xs.length = n) : IsObj w g xs :=
 ⟨fun j x hj => by rw [h.cellAt j (by have := (List.getElem?_eq_some_iff.1 hj).1; omega)]; exact hj, fun o => h.frozenAt o, (h.lt g rfl).2⟩
theorem zCe : ElemAt Tryz.prog 42 43 (.int .i64 0) 1 8 := ElemAt.mk' Tryz.underlying42 (by kernel_rfl) rfl (by decide)
theorem zEu (n : Nat) : (madeCells (Value.int .i64 0).cells (n * 1)).toList = List.replicate n (Value.int .i64 0) := by
 rw [Nat.mul_one]
 exact toList_madeCells_one (.int .i64 0) n
def ansL (A : List Int) (n : Nat) : List Value := A.map (fun a => .int .i64 a) ++ List.replicate (n - A.length) (.int .i64 0)
theorem zHW (A : List Int) (n : Nat) (a : Int) (h : A.length < n) : (ansL A n).set A.length (.int .i64 a) = ansL (A ++ [a]) n := by
 unfold ansL
 rw [List.set_append_right _ _ (by rw [List.length_map]; exact Nat.le_refl _), List.length_map, Nat.sub_self, List.map_append, List.append_assoc, List.length_append, List.length_singleton, show n - A.length = (n - (A.length + 1)) + 1 by omega, List.replicate_succ]
 rfl
theorem zGP (A : List Int) : ansL A A.length = A.map (fun a => .int .i64 a) := by
 unfold ansL
 rw [Nat.sub_self]
 exact List.append_nil _
structure PRn (W w : World) (l : List Thing) (B : YB) (N : Nat) (S : List CM) (Yf : Nat → Yd) (A : List Int) (J : Nat → Nat) (g : Nat) : Prop where
 yd : YdL W w l B N (Yf S.length) J S.length
 tr : PTr B N S Yf A
 row : Rest (Yf S.length) l J 4 (tObj W.heap.size g (A.map (fun a => .int .i64 a)))
theorem zFq {S : List CM} {i : Nat} {m : CM} (h : S[i]? = some m) : S.take (i + 1) = S.take i ++ [m] := by rw [List.take_add_one, h]; rfl
theorem zDF (T : Nat) (s so d : Int) (N : Nat) (A : Option Addr) (cap : Nat) (S : List CM) (w : World) (hS : IsAt w A (flatM S)) (hf : ∀ m ∈ S, m.Fit) (hn : S.length < 900000) (hl : Lay T s N) (o0 : 0 ≤ so) (o1 : so ≤ 4) (d0 : 0 ≤ d) (d1 : d ≤ 100) :
  Calls Tryz.prog 11 #[scV T s so d (.slice A S.length cap)] w fun r w' => ∃ W l yb ytb p c Yf An J g, r = .returned (.tuple #[pt yb, .slice (some ⟨g, 0, none⟩) S.length S.length, i64 0]) ∧ Below w.heap.size w W ∧ PRn W w' l ⟨yb, ytb, p, c, T, s, so, d, T⟩ N S Yf An J g := by
 have hB0 := zAA (Below.refl w.heap.size w) (.cells #[.int .i64 T, .int .i64 s, .int .i64 so, .int .i64 d, .slice A S.length cap] 29)
 have HS := zIW (hS.later hB0)
 have HSO := zIW (IsObj.made w [.int .i64 T, .int .i64 s, .int .i64 so, .int .i64 d, .slice A S.length cap] 29)
 have HB := zIW hB0
 have HF := zIW hf
 have HLAY := zIW hl
 obtain ⟨n, hne⟩ : ∃ n, S.length = n := ⟨_, rfl⟩
 rw [hne] at hn HSO HB HS ⊢
 have HN := zIW hne
 clear hS hf hl hB0 hne
 unfold scV
 go_enter Tryz.func11, Tryz.ntmps11
 go_wp2_with fail
 generalize w.alloc (.cells #[.int .i64 T, .int .i64 s, .int .i64 so, .int .i64 d, .slice A n cap] 29) = W at HS HSO HB ⊢
 refine (zGy (W := W) T s so d N (Below.refl _ _) HLAY.out o0 o1 d0 d1).mono ?_
 rintro r w3 ⟨yb, ytb, p, c, l0, rfl, hl4, hY, hb, hyb⟩
 have HD0 := zIW (YdL.start HLAY.out o0 o1 d0 d1 hY)
 have HL4 := zIW hl4
 clear hY hb hyb hl4
 have q4 := (HSO.out.later HD0.out.h.below).at' 4 _ rfl
 obtain ⟨im, hm1, hm2, hm3, hm4⟩ := zCe.info
 go_wp2_with (at_make; refine wpList_make_full _ rfl _ _ 42 rfl W.heap.size 43 im (.int .i64 0) 1 zCe.und hm1 hm2 hm3 .i64 .i64 _ _ n rfl rfl rfl rfl (by rw [hm4]; omega) (by unfold maxLen; omega) HD0.out.h.size ?_; intro w4 hown hg; rw [zEu] at hown; have hown2 : w4.ownsRow W.heap.size 43 1 (.slice (some ⟨w3.heap.size, 0, none⟩) n n) n (ansL [] n) := hown; have HD1 := zIW (HD0.out.more (A := tObj W.heap.size w3.heap.size (ansL [] n)) ((Below.refl _ _).grown hg (Nat.le_refl _) (fun k hk => by cases hk)) (zAV W.heap.size _ _) ⟨IsObj.rowOf hown2 (by unfold ansL; simp), HD0.out.h.size⟩ (fun q hq => by cases hq; exact Nat.le_refl _)); have R4 := zIW (HD0.out.rest (tObj W.heap.size w3.heap.size (ansL [] n))); clear hown hown2 hg q4; have q4 := (HSO.out.later HD1.out.h.below).at' 4 _ rfl)
 clear im hm1 hm2 hm3 hm4 HD0
 generalize w3.heap.size = g at HD1 R4 ⊢
 have HR0 : Hid (Rest (yd0 N T) (l0 ++ [tObj W.heap.size g (ansL [] n)]) (fun _ => 0) 4 (tObj W.heap.size g (ansL [] n))) := zIW (by have h := R4.out; rw [HL4.out] at h; exact h)
 have HP0 : Hid (PTr ⟨yb, ytb, p, c, T, s, so, d, T⟩ N (S.take 0) (fun _ => yd0 N T) []) := zIW (PTr.start ⟨HLAY.out, o0, o1, d0, d1⟩ rfl)
 clear R4 HL4
 go_loopw [26] (fun ix wr => ∃ (i : Nat) (l : List Thing) (Y : Nat → Yd) (J : Nat → Nat) (An : List Int), i ≤ n ∧ ix = .int .i64 i ∧ Hid (YdL W wr l ⟨yb, ytb, p, c, T, s, so, d, T⟩ N (Y i) J i) ∧ Hid (PTr ⟨yb, ytb, p, c, T, s, so, d, T⟩ N (S.take i) Y An) ∧ Hid (Rest (Y i) l J 4 (tObj W.heap.size g (ansL An n)))) (fun ix _ => n - (RowKit.intOf ix).toNat)
 case atStart => exact ⟨0, _, (fun _ => yd0 N T), _, [], Nat.zero_le _, rfl, HD1, HP0, HR0⟩
 case round =>
  clear HD1 HP0 HR0
  obtain ⟨i, l, Y, J, An, hin, rfl, HD, HP, HR⟩ := hrel
  rcases Nat.lt_or_ge i n with hi | hi
  ·have hi' : (i : Int) < (n : Int) := by omega
   have hiS : i < S.length := by have := HN.out; omega
   obtain ⟨m, hm⟩ : ∃ m, S[i]? = some m := ⟨_, List.getElem?_eq_getElem hiS⟩
   have HM := zIW (List.mem_of_getElem? hm)
   have HTS := zIW (zFq hm)
   obtain ⟨b, off, rfl, hbl, hc⟩ := HS.out.move hm
   have hW1 := HD.out.h.below
   have e0 := (hW1.cell (p := ⟨b, off + i * 7, none⟩) hbl).trans hc.c0
   have e1 := (hW1.cell (p := ⟨b, off + i * 7 + 1, none⟩) hbl).trans hc.c1
   have e2 := (hW1.cell (p := ⟨b, off + i * 7 + 2, none⟩) hbl).trans hc.c2
   have e3 := (hW1.cell (p := ⟨b, off + i * 7 + 3, none⟩) hbl).trans hc.c3
   have e4 := (hW1.cell (p := ⟨b, off + i * 7 + 4, none⟩) hbl).trans hc.c4
   have e5 := (hW1.cell (p := ⟨b, off + i * 7 + 5, none⟩) hbl).trans hc.c5
   have e6 := (hW1.cell (p := ⟨b, off + i * 7 + 6, none⟩) hbl).trans hc.c6
   have HD2 := zIW (HD.out.later (zAA (Below.refl wr.heap.size wr) (m.obj 39)))
   clear hW1 hc hm hiS
   go_wp2_with fail
   refine (zHp HD2.out (by omega) m (HF.out m HM.out)).mono ?_
   rintro r w4 ⟨a, l1, J1, Y1, rfl, hdo, hd, hg⟩
   have HD1 := zIW hd
   have HR1 := zIW (HR.out.go hg)
   have hlt : (S.take i).length = i := by rw [List.length_take]; have := HN.out; omega
   have hP1 := HP.out.snoc (m := m) (a := a) (Z := Y1) (by rw [hlt]; exact hdo) hd.h.fit (HF.out m HM.out) (by rw [hlt]; omega)
   rw [hlt, ← HTS.out] at hP1
   have hAl : An.length = i := HP.out.len.trans hlt
   obtain ⟨Y2, hY2, HP2⟩ : ∃ Y2 : Nat → Yd, Y2 (i + 1) = Y1 ∧ Hid (PTr ⟨yb, ytb, p, c, T, s, so, d, T⟩ N (S.take (i + 1)) Y2 (An ++ [a])) := ⟨_, if_neg (by omega), zIW hP1⟩
   have hO := (HD1.out.has HR1.out : IsObj w4 g (ansL An n) ∧ W.heap.size ≤ g).1
   have HST := zIW (HD1.out.h.hold.objSet 4 HR1.out.at' i (.int .i64 a))
   have hset : (ansL An n).set i (.int .i64 a) = ansL (An ++ [a]) n := by rw [← hAl]; exact zHW An n a (by omega)
   have HSE := zIW hset
   obtain ⟨uu, huu⟩ : ∃ uu, (ansL An n)[i]? = some uu := ⟨_, List.getElem?_eq_getElem (by unfold ansL; rw [List.length_append, List.length_map, List.length_replicate]; omega)⟩
   have c9 := hO.at' i _ huu
   have f9 := hO.fz i
   have HY2 := zIW hY2
   clear hO hset huu hAl hP1 hlt hdo hd hg hY2 e0 e1 e2 e3 e4 e5 e6 HD HD2 HP HR HTS HM
   go_wp2_with fail
   obtain ⟨hD3, hR3⟩ := HD1.out.turnRow HR1.out (by have h := HST.out; rw [HSE.out] at h; exact h)
   have HD3 := zIW hD3
   have HR3 := zIW hR3
   clear hD3 hR3
   go_roundw
   case rel => exact ⟨i + 1, _, Y2, J1, An ++ [a], by omega, by go_num, zIW (by rw [HY2.out]; exact HD3.out), HP2, zIW (by rw [HY2.out]; exact HR3.out)⟩
   case measure => first | omega | (simp [RowKit.intOf]; done) | (simp [RowKit.intOf]; omega)
  ·obtain rfl : i = n := by omega
   have hnn : ¬ (i : Int) < (i : Int) := by omega
   clear HS hi hin
   go_wp2_with fail
   have hlen := HN.out
   subst hlen
   have hP := HP.out
   rw [List.take_length] at hP
   have hR := HR.out
   rw [← hP.len, zGP] at hR
   exact bodyPost_ret (v := .tuple #[pt yb, .slice (some ⟨g, 0, none⟩) S.length S.length, i64 0]) (by simp [results, Tryz.results11, go_sem]) rfl ⟨W, l, yb, ytb, p, c, Y, An, J, g, rfl, HB.out, HD.out, hP, by rw [← hP.len]; exact hR⟩
end
section
open Go.RowKit
def WSame (N : Nat) (C C' : List Int) : Prop := ∀ j, j < N → C'.getD j 0 = C.getD j 0
theorem WSame.refl (N : Nat) (C : List Int) : WSame N C C := fun _ _ => rfl
theorem WSame.set {N i : Nat} (C : List Int) (x : Int) (h : N ≤ i) : WSame N C (C.set i x) := fun j hj => zAG x (by omega)
section
variable {k : Sn} {C C' : List Int} {N st r P B : Nat} {last : Int}
theorem QInv.same (h : QInv k C N st r P B last) (e : WSame N C C') : QInv k C' N st r P B last :=
 have hN : 0 < N := by have := h.at'.r1; omega
 ⟨h.at', h.ph, fun hl q hq => (h.a hl q hq).trans (e _ (Nat.mod_lt _ hN)).symm, fun hP hl => ⟨fun j hj => ((h.b hP hl).1 j hj).trans (e j hj).symm, (h.b hP hl).2⟩, h.c1, h.c2, h.c3, h.l⟩
theorem QInv.sure (h : QInv k C N st r P B last) (hr : r + 1 = N) (hP : 1 ≤ P) (hl : last < (P : Int) - 1) : (k.step C).ph = 1 := by
 obtain ⟨m1, m3, m4, m6, m7⟩ := h.at'.last (C := C) h.ph hr
 obtain ⟨b1, b2⟩ := h.b hP hl
 rw [m7, if_pos]
 refine ⟨hP, ?_⟩
 rw [b2, b1 _ h.at'.slot_lt]
 simp
end
def GLeft (N : Nat) (k : Ge) (C : List Int) (m : Nat) : Prop :=
 (k.ta = none ∧ ∃ (st r P B : Nat) (last : Int), QInv k.sn C N st r P B last ∧ (3 * N + 10 ≤ m + r ∨ (last ≠ (P : Int) ∧ (P = 0 ∨ last = (P : Int) - 1) ∧ 2 * N + 5 ≤ m + r) ∨ (1 ≤ P ∧ last < (P : Int) - 1 ∧ N + 5 ≤ m + r))) ∨
 (∃ a, k.ta = some a ∧ ((a.lost = false ∧ (a.next ≤ 3 → C.getD a.slot.toNat 0 = a.word) ∧ (5 : Int) ≤ m + a.next) ∨ (2 * N + 10 : Int) ≤ m + a.next))
section
variable {k : Ge} {C C' : List Int} {N hz m m' : Nat} {z : Int}
theorem GLeft.more (h : GLeft N k C m) (hm : m ≤ m') : GLeft N k C m' := by
 rcases h with ⟨h1, st, r, P, B, last, h2, h3⟩ | ⟨a, h1, h2⟩
 ·refine .inl ⟨h1, st, r, P, B, last, h2, ?_⟩
  rcases h3 with h3 | ⟨h3, h4, h5⟩ | ⟨h3, h4, h5⟩
  ·exact .inl (by omega)
  ·exact .inr (.inl ⟨h3, h4, by omega⟩)
  ·exact .inr (.inr ⟨h3, h4, by omega⟩)
 ·refine .inr ⟨a, h1, ?_⟩
  rcases h2 with ⟨h2, h3, h4⟩ | h2
  ·exact .inl ⟨h2, h3, by omega⟩
  ·exact .inr (by omega)
theorem GLeft.same (h : GLeft N k C m) (hk : k.Ok N hz C) (hp : k.ph = 0) (e : WSame N C C') : GLeft N k C' m := by
 rcases h with ⟨h1, st, r, P, B, last, h2, h3⟩ | ⟨a, h1, h2⟩
 ·exact .inl ⟨h1, st, r, P, B, last, h2.same e, h3⟩
 ·refine .inr ⟨a, h1, ?_⟩
  rcases h2 with ⟨h2, h3, h4⟩ | h2
  ·have ho := (hk.ta hp a h1).1
   have h0 := ho.s0
   have h9 := ho.s1
   exact .inl ⟨h2, fun h => (e _ (by omega)).trans (h3 h), h4⟩
  ·exact .inr h2
theorem GLeft.turn (h : GLeft N k C m) (C' : List Int) (hk : k.Ok N hz C) (hp : k.ph = 0) : GLeft N k C' (4 * N + 10) := by
 rcases h with ⟨h1, st, r, P, B, last, h2, h3⟩ | ⟨a, h1, h2⟩
 ·exact .inl ⟨h1, st, r, P, _, _, h2.store C', .inl (by omega)⟩
 ·obtain ⟨ho, ha⟩ := hk.ta hp a h1
  have := ho.st ha
  exact .inr ⟨a, h1, .inr (by omega)⟩
theorem GLeft.start {t s so d who e start : Int} (hl : Lay t s N) : GLeft N (ge0 t s so d who e start N) C (4 * N + 10) := by
 have hn1 := hl.n1
 have ht1 := hl.t1
 have hn2 := hl.n2
 obtain ⟨m1, m2, m5, m3, m4⟩ := zAr start N (by omega) (by omega)
 obtain ⟨st, hst⟩ : ∃ st : Nat, IntKind.u64.wrap start % N = (st : Int) := ⟨_, (Int.toNat_of_nonneg m3).symm⟩
 refine .inl ⟨rfl, st, 0, 0, 0, -1, ?_, .inl (by omega)⟩
 show QInv (sn0 t s so d who (IntKind.u64.wrap start % N) N) C N st 0 0 0 (-1)
 rw [hst]
 exact QInv.start t s so d who C N st 0 (by omega)
theorem GLeft.step (h : GLeft N k C m) (hk : k.Ok N hz C) (hp : k.ph = 0) (ha : k.ask C z) : 1 ≤ m ∧ ((k.step N hz C z).ph ≠ 0 ∨ GLeft N (k.step N hz C z) (k.cells N hz C) (m - 1)) := by
 have hn1 := hk.lay.n1
 have ht1 := hk.lay.t1
 have hn2 := hk.lay.n2
 have hzz := hk.hzz
 have w0 := hk.w0
 have w1 := hk.w1
 have hlen := hk.len
 have hnp : ¬ k.ph ≠ 0 := by omega
 rcases h with ⟨hta, st, r, P, B, last, hq, h3⟩ | ⟨a, hta, h2⟩
 ·have e1 : k.step N hz C z = k.read (k.sn.step C) z := by unfold Ge.step; rw [if_neg hnp, hta]
  have e2 : k.cells N hz C = C := by unfold Ge.cells; rw [if_neg hnp, hta]
  have hr1 := hq.at'.r1
  have hl := hq.l
  rw [e2]
  refine ⟨by omega, ?_⟩
  rcases (by omega : r + 1 < N ∨ r + 1 = N) with hr | hr
  ·have hm := hq.mid hr
   have e3 : k.step N hz C z = { k with sn := k.sn.step C } := by
    rw [e1]
    unfold Ge.read
    rw [if_pos (by rw [hm.ph]; decide)]
   rw [e3]
   refine .inr (.inl ⟨hta, st, r + 1, P, B, last, hm, ?_⟩)
   rcases h3 with h3 | ⟨h3, h4, h5⟩ | ⟨h3, h4, h5⟩
   ·exact .inl (by omega)
   ·exact .inr (.inl ⟨h3, h4, by omega⟩)
   ·exact .inr (.inr ⟨h3, h4, by omega⟩)
  ·rcases hq.last hr with hm | hm
   ·have e3 : k.step N hz C z = { k with sn := k.sn.step C } := by
     rw [e1]
     unfold Ge.read
     rw [if_pos (by rw [hm.ph]; decide)]
    rw [e3]
    refine .inr (.inl ⟨hta, st, 0, P + 1, B, last, hm, ?_⟩)
    rcases h3 with h3 | ⟨h3, h4, h5⟩ | ⟨h3, h4, h5⟩
    ·by_cases hlp : last = (P : Int)
     ·exact .inr (.inl ⟨by omega, .inr (by omega), by omega⟩)
     ·exact .inr (.inr ⟨by omega, by omega, by omega⟩)
    ·exact .inr (.inr ⟨by omega, by omega, by omega⟩)
    ·have := hq.sure hr h3 h4
     rw [hm.ph] at this
     exact absurd this (by decide)
   ·have hd := hm.ph
    by_cases hz0 : z < 0
    ·have e3 : k.step N hz C z = { k with sn := k.sn.step C, ph := 2 } := by
      rw [e1]
      unfold Ge.read
      rw [if_neg (fun h => h hd), if_pos hz0]
     rw [e3]
     exact .inl (by show (2 : Int) ≠ 0; decide)
    ·have e3 : k.step N hz C z = { k with sn := k.sn.step C, ta := some (ta0 k.t k.s k.so k.d k.who z ((k.sn.step C).X.getD z.toNat 0)) } := by
      rw [e1]
      unfold Ge.read
      rw [if_neg (fun h => h hd), if_neg hz0]
     have hE := ha hp hta hd
     have hzN : z.toNat < N := by
      rcases hE with ⟨hz1, _⟩ | ⟨j, rfl, hj, _⟩
      ·omega
      ·have := hm.at'.X
       rw [Int.toNat_natCast]
       omega
     rw [e3]
     refine .inr (.inr ⟨_, rfl, ?_⟩)
     show (false = false ∧ ((0 : Int) ≤ 3 → C.getD z.toNat 0 = (k.sn.step C).X.getD z.toNat 0) ∧ (5 : Int) ≤ (m - 1 : Nat) + 0) ∨ (2 * N + 10 : Int) ≤ (m - 1 : Nat) + 0
     rcases h3 with h3 | ⟨h3, h4, h5⟩ | ⟨h3, h4, h5⟩
     ·exact .inr (by omega)
     ·exact .inl ⟨rfl, fun _ => (hm.x (by omega) _ hzN).symm, by omega⟩
     ·exact .inl ⟨rfl, fun _ => (hm.x (by omega) _ hzN).symm, by omega⟩
 ·obtain ⟨ho, ap⟩ := hk.ta hp a hta
  have s0 := ho.s0
  have s1 := ho.s1
  have e1 : k.step N hz C z = k.grab N (a.go a.slot.toNat (N + a.slot.toNat) C) := by unfold Ge.step; rw [if_neg hnp, hta]
  have e2 : k.cells N hz C = a.cells a.slot.toNat hz C := by unfold Ge.cells; rw [if_neg hnp, hta]
  have on : ∀ a' : Ta, a.go a.slot.toNat (N + a.slot.toNat) C = a' → a'.ph = 0 → k.step N hz C z = { k with ta := some a' } := fun a' g hp' => by
   rw [e1, g]
   unfold Ge.grab
   rw [if_neg (by omega), if_neg (by omega)]
  rcases ho.st ap with ⟨hn, hl⟩ | ⟨hn, hl⟩ | ⟨hn, hl⟩ | ⟨hn, hl⟩ | hn
  ·obtain ⟨g1, g2, g3⟩ := go_0 (j := a.slot.toNat) (jv := N + a.slot.toNat) (hz := hz) (C := C) ap hn
   rw [on _ g1 ap, e2, g2]
   refine ⟨by omega, .inr (.inr ⟨_, rfl, ?_⟩)⟩
   rcases h2 with ⟨h2, h3, h4⟩ | h2
   ·exact .inl ⟨hl, fun _ => by show (C.set hz _).getD a.slot.toNat 0 = a.word; exact (zAG _ (by omega)).trans (h3 (by omega)), by show (5 : Int) ≤ (m - 1 : Nat) + 1; omega⟩
   ·exact .inr (by show (2 * N + 10 : Int) ≤ (m - 1 : Nat) + 1; omega)
  ·by_cases hw : C.getD a.slot.toNat 0 = a.word
   ·obtain ⟨g1, g2, g3⟩ := go_1y (jv := N + a.slot.toNat) (hz := hz) ap hn hw
    rw [on _ g1 ap, e2, g2]
    refine ⟨by omega, .inr (.inr ⟨_, rfl, ?_⟩)⟩
    rcases h2 with ⟨h2, h3, h4⟩ | h2
    ·exact .inl ⟨hl, fun _ => hw, by show (5 : Int) ≤ (m - 1 : Nat) + 2; omega⟩
    ·exact .inr (by show (2 * N + 10 : Int) ≤ (m - 1 : Nat) + 2; omega)
   ·obtain ⟨g1, g2, g3⟩ := go_1n (jv := N + a.slot.toNat) (hz := hz) ap hn hw
    rw [on _ g1 ap, e2, g2]
    rcases h2 with ⟨h2, h3, h4⟩ | h2
    ·exact absurd (h3 (by omega)) hw
    ·exact ⟨by omega, .inr (.inr ⟨_, rfl, .inr (by show (2 * N + 10 : Int) ≤ (m - 1 : Nat) + 4; omega)⟩)⟩
  ·obtain ⟨g1, g2, g3⟩ := go_2 (j := a.slot.toNat) (jv := N + a.slot.toNat) (hz := hz) (C := C) ap hn
   rw [on _ g1 ap, e2, g2]
   refine ⟨by omega, .inr (.inr ⟨_, rfl, ?_⟩)⟩
   rcases h2 with ⟨h2, h3, h4⟩ | h2
   ·exact .inl ⟨hl, fun _ => h3 (by omega), by show (5 : Int) ≤ (m - 1 : Nat) + 3; omega⟩
   ·exact .inr (by show (2 * N + 10 : Int) ≤ (m - 1 : Nat) + 3; omega)
  ·by_cases hw : C.getD a.slot.toNat 0 = a.word
   ·obtain ⟨g1, g2, g3⟩ := go_3y (jv := N + a.slot.toNat) (hz := hz) ap hn hw
    rw [on _ g1 ap, e2, g2]
    refine ⟨by omega, .inr (.inr ⟨_, rfl, ?_⟩)⟩
    rcases h2 with ⟨h2, h3, h4⟩ | h2
    ·exact .inl ⟨hl, fun h => absurd h (by show ¬ (4 : Int) ≤ 3; decide), by show (5 : Int) ≤ (m - 1 : Nat) + 4; omega⟩
    ·exact .inr (by show (2 * N + 10 : Int) ≤ (m - 1 : Nat) + 4; omega)
   ·obtain ⟨g1, g2, g3⟩ := go_3n (jv := N + a.slot.toNat) (hz := hz) ap hn hw
    rw [on _ g1 ap, e2, g2]
    rcases h2 with ⟨h2, h3, h4⟩ | h2
    ·exact absurd (h3 (by omega)) hw
    ·exact ⟨by omega, .inr (.inr ⟨_, rfl, .inr (by show (2 * N + 10 : Int) ≤ (m - 1 : Nat) + 4; omega)⟩)⟩
  ·by_cases hl : a.lost = true
   ·obtain ⟨g1, g2, g3⟩ := go_4n (j := a.slot.toNat) (jv := N + a.slot.toNat) (hz := hz) (C := C) ap hn hl
    have e3 : k.step N hz C z = { k with tries := k.tries + 1, sn := sn0 k.t k.s k.so k.d k.who (IntKind.u64.wrap k.start % N) N, ta := none } := by
     rw [e1, g1]
     unfold Ge.grab
     rw [if_neg (by show ¬ (2 : Int) = 1; decide), if_pos rfl]
    rw [e3, e2, g2]
    rcases h2 with ⟨h2, _⟩ | h2
    ·rw [hl] at h2
     cases h2
    ·obtain ⟨m1, m2, m5, m3, m4⟩ := zAr k.start N (by omega) (by omega)
     obtain ⟨st, hst⟩ : ∃ st : Nat, IntKind.u64.wrap k.start % N = (st : Int) := ⟨_, (Int.toNat_of_nonneg m3).symm⟩
     refine ⟨by omega, .inr (.inl ⟨rfl, st, 0, 0, 0, -1, ?_, .inr (.inl ⟨by decide, .inl rfl, by omega⟩)⟩)⟩
     show QInv (sn0 k.t k.s k.so k.d k.who (IntKind.u64.wrap k.start % N) N) _ N st 0 0 0 (-1)
     rw [hst]
     exact QInv.start _ _ _ _ _ _ N st 0 (by omega)
   ·have hl' : a.lost = false := by simpa using hl
    obtain ⟨g1, g2, g3⟩ := go_4y (j := a.slot.toNat) (jv := N + a.slot.toNat) (hz := hz) (C := C) ap hn hl'
    have e3 : k.step N hz C z = { k with ta := some { a with next := 5, ph := 1 }, ph := 1 } := by
     rw [e1, g1]
     unfold Ge.grab
     rw [if_pos rfl]
    rw [e3]
    exact ⟨by rcases h2 with ⟨_, _, h4⟩ | h2 <;> omega, .inl (by show (1 : Int) ≠ 0; decide)⟩
end
theorem zGE {nb N : Nat} {k : Tk} {C : List Int} {now : Int} (h : N ≤ nb) : WSame N C (stp nb k C now).2.1 := by
 have h0 : ∀ x, WSame N C (C.set nb x) := fun x => WSame.set C x h
 have h1 : ∀ x, WSame N C (C.set (nb + k.who.toNat) x) := fun x => WSame.set C x (by omega)
 have h2 : WSame N C C := WSame.refl N C
 unfold stp
 repeat' split
 all_goals first | exact h0 _ | exact h1 _ | exact h2
def WTurn (N : Nat) (T T' : Wk) (E : List Ev) : Prop :=
 (∃ e, E = [e] ∧ 0 ≤ e.cell ∧ e.cell < N ∧ (e.op = 1 ∨ (e.op = 2 ∧ e.ok = true))) ∧ (T'.ph = 1 ∨ ∃ k a, T' = .ge k ∧ k.ph = 0 ∧ k.ta = some a ∧ a.next = 4 ∧ a.lost = false)
def Wk.last (T : Wk) : Prop := ∃ k a, T = .ge k ∧ k.ph = 0 ∧ k.ta = some a ∧ a.next = 4 ∧ a.lost = false
theorem Wk.words {T : Wk} {P : Pl} {C : List Int} {now z : Int} (h : T.Ok P C) (hp : T.ph = 0) : WSame P.N C (T.cells P C now) ∨ WTurn P.N T (T.step P C now z) (T.ev P C now) := by
 cases T with
 | pu k =>
  have h1 : k.Ok P.N P.m P.nb P.h0 C := h
  have hp0 : k.ph = 0 := hp
  have hnp : ¬ k.ph ≠ 0 := by omega
  have s0 := h1.cl.s0; have s1 := h1.cl.s1; have m0 := h1.cl.m0; have m1 := h1.cl.m1; have nt := h1.tk.nt; have t1 := h1.cl.lay.t1; have ct := h1.ct; have tt := h1.tt
  show WSame P.N C (k.cells P.N P.nb C now) ∨ WTurn P.N (.pu k) (.pu (k.step P.m P.nb P.h0 C now)) (k.ev P.N P.nb P.h0 C now)
  rcases h1.at' hp0 with ⟨a, _, _⟩ | ⟨a, _, _⟩ | ⟨a, _, _⟩ | ⟨a, _, _⟩
  ·refine .inl ?_
   unfold Pu.cells
   rw [if_neg hnp, if_pos a]
   exact WSame.refl _ _
  ·refine .inl ?_
   unfold Pu.cells
   rw [if_neg hnp, if_neg (by omega), if_pos a]
   exact zGE (by omega)
  ·refine .inl ?_
   unfold Pu.cells
   rw [if_neg hnp, if_neg (by omega), if_neg (by omega), if_pos a]
   exact WSame.set _ _ (by omega)
  ·refine .inr ⟨?_, .inl ?_⟩
   ·unfold Pu.ev
    rw [if_neg hnp, if_neg (by omega), if_neg (by omega), if_neg (by omega)]
    exact ⟨_, rfl, by show (0 : Int) ≤ (k.cl.slot.toNat : Nat); omega, by show ((k.cl.slot.toNat : Nat) : Int) < P.N; omega, .inl rfl⟩
   ·show (k.step P.m P.nb P.h0 C now).ph = 1
    unfold Pu.step
    rw [if_neg hnp, if_neg (by omega), if_neg (by omega), if_neg (by omega)]
 | ge k =>
  have h1 : k.Ok P.N P.hw C := h.1
  have hp0 : k.ph = 0 := hp
  have hnp : ¬ k.ph ≠ 0 := by omega
  have hzz := h1.hzz
  have w0 := h1.w0
  show WSame P.N C (k.cells P.N P.hw C) ∨ WTurn P.N (.ge k) (.ge (k.step P.N P.hw C z)) (k.ev P.N P.hw C)
  cases hta : k.ta with
  | none =>
   refine .inl ?_
   have e2 : k.cells P.N P.hw C = C := by unfold Ge.cells; rw [if_neg hnp, hta]
   rw [e2]
   exact WSame.refl _ _
  | some a =>
   obtain ⟨ho, ap⟩ := h1.ta hp0 a hta
   have s0 := ho.s0
   have s1 := ho.s1
   have e1 : k.step P.N P.hw C z = k.grab P.N (a.go a.slot.toNat (P.N + a.slot.toNat) C) := by unfold Ge.step; rw [if_neg hnp, hta]
   have e2 : k.cells P.N P.hw C = a.cells a.slot.toNat P.hw C := by unfold Ge.cells; rw [if_neg hnp, hta]
   have e3 : k.ev P.N P.hw C = a.ev a.slot.toNat (P.N + a.slot.toNat) P.hw C := by unfold Ge.ev; rw [if_neg hnp, hta]
   rw [e2]
   rcases ho.st ap with ⟨hn, hl⟩ | ⟨hn, hl⟩ | ⟨hn, hl⟩ | ⟨hn, hl⟩ | hn
   ·rw [(go_0 (j := a.slot.toNat) (jv := P.N + a.slot.toNat) (hz := P.hw) (C := C) ap hn).2.1]
    exact .inl (WSame.set _ _ (by omega))
   ·by_cases hw : C.getD a.slot.toNat 0 = a.word
    ·rw [(go_1y (jv := P.N + a.slot.toNat) (hz := P.hw) ap hn hw).2.1]
     exact .inl (WSame.refl _ _)
    ·rw [(go_1n (jv := P.N + a.slot.toNat) (hz := P.hw) ap hn hw).2.1]
     exact .inl (WSame.refl _ _)
   ·rw [(go_2 (j := a.slot.toNat) (jv := P.N + a.slot.toNat) (hz := P.hw) (C := C) ap hn).2.1]
    exact .inl (WSame.refl _ _)
   ·by_cases hw : C.getD a.slot.toNat 0 = a.word
    ·obtain ⟨g1, g2, g3⟩ := go_3y (jv := P.N + a.slot.toNat) (hz := P.hw) ap hn hw
     refine .inr ⟨⟨_, e3.trans g3, by show (0 : Int) ≤ (a.slot.toNat : Nat); omega, by show ((a.slot.toNat : Nat) : Int) < P.N; omega, .inr ⟨rfl, rfl⟩⟩, .inr ⟨{ k with ta := some { a with next := 4 } }, { a with next := 4 }, ?_, hp0, rfl, rfl, hl⟩⟩
     rw [e1, g1]
     unfold Ge.grab
     rw [if_neg (by show ¬ a.ph = 1; omega), if_neg (by show ¬ a.ph = 2; omega)]
    ·rw [(go_3n (jv := P.N + a.slot.toNat) (hz := P.hw) ap hn hw).2.1]
     exact .inl (WSame.refl _ _)
   ·by_cases hl : a.lost = true
    ·rw [(go_4n (j := a.slot.toNat) (jv := P.N + a.slot.toNat) (hz := P.hw) (C := C) ap hn hl).2.1]
     exact .inl (WSame.set _ _ (by omega))
    ·rw [(go_4y (j := a.slot.toNat) (jv := P.N + a.slot.toNat) (hz := P.hw) (C := C) ap hn (by simpa using hl)).2.1]
     exact .inl (WSame.set _ _ (by omega))
theorem Wk.last_over {T : Wk} {P : Pl} {C : List Int} {now z : Int} (h : T.Ok P C) (hl : T.last) : (T.step P C now z).ph = 1 := by
 obtain ⟨k, a, rfl, hp, hta, hn, hf⟩ := hl
 have h1 : k.Ok P.N P.hw C := h.1
 obtain ⟨ho, ap⟩ := h1.ta hp a hta
 show (k.step P.N P.hw C z).ph = 1
 have e1 : k.step P.N P.hw C z = k.grab P.N (a.go a.slot.toNat (P.N + a.slot.toNat) C) := by unfold Ge.step; rw [if_neg (by omega), hta]
 rw [e1, (go_4y (j := a.slot.toNat) (jv := P.N + a.slot.toNat) (hz := 0) (C := C) ap hn hf).1]
 unfold Ge.grab
 rw [if_pos rfl]
def WLeft (P : Pl) (T : Wk) (C : List Int) (m : Nat) : Prop := match T with
 | .pu k => k.rem P.m ≤ m
 | .ge k => GLeft P.N k C m
def Wk.most (T : Wk) (P : Pl) (put : Nat) : Nat := match T with
 | .pu _ => put
 | .ge _ => 4 * P.N + 10
section
variable {T : Wk} {P : Pl} {C C' : List Int} {now z : Int} {m m' : Nat}
theorem WLeft.more (h : WLeft P T C m) (hm : m ≤ m') : WLeft P T C m' := by
 cases T with
 | pu k =>
  have h' : k.rem P.m ≤ m := h
  show k.rem P.m ≤ m'
  omega
 | ge k => exact GLeft.more h hm
theorem WLeft.same (h : WLeft P T C m) (hk : T.Ok P C) (hp : T.ph = 0) (e : WSame P.N C C') : WLeft P T C' m := by
 cases T with
 | pu k => exact h
 | ge k => exact GLeft.same h hk.1 hp e
theorem WLeft.step (h : WLeft P T C m) (hk : T.Ok P C) (hp : T.ph = 0) (ha : T.ask C z) (n0 : 0 ≤ now) (hf : ∀ j, 0 ≤ C.getD j 0) : 1 ≤ m ∧ ((T.step P C now z).ph ≠ 0 ∨ WLeft P (T.step P C now z) (T.cells P C now) (m - 1)) := by
 cases T with
 | pu k =>
  have hk' : k.Ok P.N P.m P.nb P.h0 C := hk
  have h' : k.rem P.m ≤ m := h
  have h1 := (hk'.next_ (now := now) n0 hf).2 hp
  have h2 := Pu.rem_pos hk' hp
  refine ⟨by omega, .inr ?_⟩
  show (k.step P.m P.nb P.h0 C now).rem P.m ≤ (m - 1 : Nat)
  omega
 | ge k => exact GLeft.step h hk.1 hp ha
end
end
section
open Go.RowKit
def Wk.lim (T : Wk) (N put tn : Nat) : Nat := match T with
 | .pu _ => put
 | .ge _ => (tn + 1) * (4 * N + 10)
theorem Wk.lim_step (T : Wk) (P : Pl) (C : List Int) (now z : Int) (N put tn : Nat) : (T.step P C now z).lim N put tn = T.lim N put tn := by
 cases T <;> rfl
theorem Wk.lim_mono (T : Wk) {N put tn tn' : Nat} (h : tn ≤ tn') : T.lim N put tn ≤ T.lim N put tn' := by
 cases T with
 | pu k => exact Nat.le_refl _
 | ge k => exact Nat.mul_le_mul_right _ (by omega)
def OLeft (P : Pl) (T : Wk) (C : List Int) (put own tn : Nat) : Prop := ∃ m, WLeft P T C m ∧ m ≤ T.lim P.N put 0 ∧ own + m ≤ T.lim P.N put tn
section
variable {P : Pl} {T : Wk} {C C' : List Int} {put own tn tn' : Nat} {now z : Int}
theorem OLeft.le (h : OLeft P T C put own tn) : own ≤ T.lim P.N put tn := by
 obtain ⟨m, _, _, h3⟩ := h
 omega
theorem OLeft.new (h : WLeft P T C (T.lim P.N put 0)) : OLeft P T C put 0 0 := ⟨_, h, Nat.le_refl _, by omega⟩
theorem OLeft.again (h : OLeft P T C put own tn) : OLeft P T C put 0 0 := by
 obtain ⟨m, h1, h2, _⟩ := h
 exact ⟨m, h1, h2, by omega⟩
theorem OLeft.more (h : OLeft P T C put own tn) (ht : tn ≤ tn') : OLeft P T C put own tn' := by
 obtain ⟨m, h1, h2, h3⟩ := h
 exact ⟨m, h1, h2, Nat.le_trans h3 (T.lim_mono ht)⟩
theorem OLeft.same (h : OLeft P T C put own tn) (hk : T.Ok P C) (hp : T.ph = 0) (e : WSame P.N C C') : OLeft P T C' put own tn := by
 obtain ⟨m, h1, h2, h3⟩ := h
 exact ⟨m, h1.same hk hp e, h2, h3⟩
theorem OLeft.turn (h : OLeft P T C put own tn) (C' : List Int) (hk : T.Ok P C) (hp : T.ph = 0) : OLeft P T C' put own (tn + 1) := by
 obtain ⟨m, h1, h2, h3⟩ := h
 cases T with
 | pu k => exact ⟨m, h1, h2, h3⟩
 | ge k =>
  have h3' : own + m ≤ (tn + 1) * (4 * P.N + 10) := h3
  refine ⟨4 * P.N + 10, GLeft.turn h1 C' hk.1 hp, ?_, ?_⟩
  ·show 4 * P.N + 10 ≤ (0 + 1) * (4 * P.N + 10)
   omega
  ·show own + (4 * P.N + 10) ≤ (tn + 1 + 1) * (4 * P.N + 10)
   rw [Nat.add_mul (tn + 1) 1, Nat.one_mul]
   omega
theorem OLeft.step (h : OLeft P T C put own tn) (hk : T.Ok P C) (hp : T.ph = 0) (ha : T.ask C z) (n0 : 0 ≤ now) (hf : ∀ j, 0 ≤ C.getD j 0) : own + 1 ≤ T.lim P.N put tn ∧ ((T.step P C now z).ph ≠ 0 ∨ OLeft P (T.step P C now z) (T.cells P C now) put (own + 1) tn) := by
 obtain ⟨m, h1, h2, h3⟩ := h
 obtain ⟨g1, g2⟩ := h1.step hk hp ha n0 hf (now := now)
 refine ⟨by omega, g2.imp id (fun g => ⟨m - 1, g, ?_, ?_⟩)⟩
 ·rw [T.lim_step]
  omega
 ·rw [T.lim_step]
  omega
end
def tot (f : Nat → Nat) : Nat → Nat
 | 0 => 0
 | n + 1 => tot f n + f n
def updN (f : Nat → Nat) (k v : Nat) : Nat → Nat := fun j => if j = k then v else f j
theorem zA1 (f : Nat → Nat) (k v : Nat) : updN f k v k = v := if_pos rfl
theorem zAU {f : Nat → Nat} {k v j : Nat} (h : j ≠ k) : updN f k v j = f j := if_neg h
def othN (f : Nat → Nat) (w d : Nat) : Nat → Nat := fun k => if k = w then f w else f k + d
theorem zB9 (f : Nat → Nat) (w d : Nat) : othN f w d w = f w := if_pos rfl
theorem zBi {f : Nat → Nat} {w d k : Nat} (h : k ≠ w) : othN f w d k = f k + d := if_neg h
theorem zD5 (f : Nat → Nat) (k : Nat) : ∀ n, tot (updN f k (f k + 1)) n = tot f n + if k < n then 1 else 0
 | 0 => rfl
 | n + 1 => by
  have ih := zD5 f k n
  rw [tot, tot, ih]
  by_cases e : n = k
  ·subst e
   rw [zA1, if_neg (Nat.lt_irrefl _), if_pos (Nat.lt_succ_self _)]
   omega
  ·rw [zAU e]
   by_cases h : k < n
   ·rw [if_pos h, if_pos (by omega)]
    omega
   ·rw [if_neg h, if_neg (by omega)]
    omega
theorem zFX {f : Nat → Nat} {b : Nat} : ∀ {n : Nat}, (∀ k, k < n → f k ≤ b) → tot f n ≤ n * b
 | 0, _ => by simp [tot]
 | n + 1, h => by
  have ih := zFX (n := n) (fun k hk => h k (by omega))
  have := h n (by omega)
  rw [tot, Nat.add_mul, Nat.one_mul]
  omega
theorem zC5 {f : Nat → Nat} {n : Nat} (h : ∀ k, f k = 0) : tot f n = 0 := by
 induction n with
 | zero => rfl
 | succ n ih => rw [tot, ih, h n]
theorem zFN {f : Nat → Nat} {k : Nat} : ∀ {n : Nat}, k < n → f k ≤ tot f n
 | 0, h => absurd h (Nat.not_lt_zero _)
 | n + 1, h => by
  rw [tot]
  by_cases e : k = n
  ·subst e
   omega
  ·have := zFN (f := f) (n := n) (k := k) (by omega)
   omega
theorem zFw {f : Nat → Nat} {k : Nat} (h1 : ∀ j, f j ≤ 1) : ∀ {n : Nat}, k < n → tot f n - f k + 1 ≤ n
 | 0, h => absurd h (Nat.not_lt_zero _)
 | n + 1, h => by
  have hn := h1 n
  rw [tot]
  by_cases e : k = n
  ·subst e
   have := zFX (f := f) (b := 1) (n := k) (fun j _ => h1 j)
   omega
  ·have ih := zFw h1 (n := n) (k := k) (by omega)
   have hg := zFN (f := f) (n := n) (k := k) (by omega)
   omega
section
variable {pl : Nat → Pl} {t n N put : Nat} {Y : Yd} {own tn : Nat → Nat}
def Books (pl : Nat → Pl) (put : Nat) (Y : Yd) (own tn : Nat → Nat) : Prop := ∀ (k : Nat) (T : Wk) (i : Nat), Y.ts[k]? = some (some (T, i)) → OLeft (pl k) T Y.C put (own k) (tn k)
theorem Books.none (h : ∀ (k : Nat) (a : Wk × Nat), Y.ts[k]? ≠ some (some a)) : Books pl put Y own tn := fun k T i hk => absurd hk (h k _)
theorem Books.call (h : Books pl put Y own tn) {w : Nat} {kd e x s : Int} {T : Wk} (hw : Y.ts[w]? = some .none) (hT : OLeft (pl w) T Y.C put 0 0) : Books pl put (Y.call w kd e x s T) (updN own w 0) (updN tn w 0) := fun k T' i hk => by
 have hk' : (Y.ts.set w (some (T, Y.ds.length)))[k]? = some (some (T', i)) := hk
 rw [List.getElem?_set] at hk'
 split at hk'
 ·rename_i e1
  subst e1
  rw [zA1, zA1]
  split at hk'
  ·cases hk'
   exact hT
  ·cases hk'
 ·rename_i e1
  rw [zAU (fun e2 => e1 e2.symm), zAU (fun e2 => e1 e2.symm)]
  exact h k T' i hk'
theorem zBv {P : Pl} {w : Nat} {T : Wk} {i : Nat} {z : Int} {k : Nat} {T' : Wk} {i' : Nat} (h : (Y.step P w T i z).ts[k]? = some (some (T', i'))) : (k = w ∧ T' = T.step P Y.C Y.now z ∧ (T.step P Y.C Y.now z).ph = 0) ∨ (k ≠ w ∧ Y.ts[k]? = some (some (T', i'))) := by
 have h' : (if (T.step P Y.C Y.now z).ph = 0 then Y.ts.set w (some (T.step P Y.C Y.now z, i)) else Y.ts.set w Option.none)[k]? = some (some (T', i')) := h
 split at h'
 ·rename_i hp
  rw [List.getElem?_set] at h'
  split at h'
  ·rename_i e1
   split at h'
   ·cases h'
    exact .inl ⟨e1.symm, rfl, hp⟩
   ·cases h'
  ·rename_i e1
   exact .inr ⟨fun e2 => e1 e2.symm, h'⟩
 ·rw [List.getElem?_set] at h'
  split at h'
  ·split at h'
   ·cases h'
   ·cases h'
  ·rename_i e1
   exact .inr ⟨fun e2 => e1 e2.symm, h'⟩
theorem Books.step (h : Books pl put Y own tn) (ho : YOk pl t n Y) (hN : ∀ k, (pl k).N = N) {w : Nat} {T : Wk} {i : Nat} {z : Int} (hw : Y.ts[w]? = some (some (T, i))) (ha : T.ask Y.C z) (hf : ∀ j, 0 ≤ Y.C.getD j 0) {dl : Nat} (hd : WSame N Y.C (T.cells (pl w) Y.C Y.now) ∨ 1 ≤ dl) :
  own w + 1 ≤ T.lim N put (tn w) ∧ Books pl put (Y.step (pl w) w T i z) (updN own w (own w + 1)) (othN tn w dl) := by
 obtain ⟨k1, k2, k3, k4, _⟩ := ho.task w T i hw
 obtain ⟨g1, g2⟩ := (h w T i hw).step k1 k4 ha ho.now0 hf (now := Y.now)
 rw [hN w] at g1
 refine ⟨g1, fun k T' i' hk => ?_⟩
 rcases zBv hk with ⟨rfl, rfl, hp⟩ | ⟨hne, hk⟩
 ·rw [zA1, zB9]
  exact g2.resolve_left (fun hh => hh hp)
 ·rw [zAU hne, zBi hne]
  obtain ⟨q1, q2, q3, q4, _⟩ := ho.task k T' i' hk
  have hb := h k T' i' hk
  rcases hd with hd | hd
  ·exact (hb.same q1 q4 (by rw [hN k]; exact hd)).more (by omega)
  ·exact (hb.turn _ q1 q4).more (by omega)
theorem Books.pass (h : Books pl put Y own tn) (m : Int) : Books pl put (Y.pass m) own tn := h
structure Stretch (pl : Nat → Pl) (t put : Nat) (Y : Yd) (s tu : Nat → Nat) : Prop where
 books : Books pl put Y s (fun k => tot tu t - tu k)
 one : ∀ k, tu k ≤ 1
 last : ∀ (k : Nat) (T : Wk) (i : Nat), Y.ts[k]? = some (some (T, i)) → tu k = 1 → T.last
 idle : ∀ k, (∀ a, Y.ts[k]? ≠ some (some a)) → s k = 0 ∧ tu k = 0
theorem Stretch.none (h : ∀ (k : Nat) (a : Wk × Nat), Y.ts[k]? ≠ some (some a)) : Stretch pl t put Y (fun _ => 0) (fun _ => 0) :=
 ⟨Books.none h, fun _ => Nat.zero_le _, fun k T i hk => absurd hk (h k _), fun _ _ => ⟨rfl, rfl⟩⟩
theorem Stretch.short (h : Stretch pl t put Y (own) tn) (ho : YOk pl t n Y) (hN : ∀ k, (pl k).N = N) (ht : 1 ≤ t) {b : Nat} (h1 : put ≤ b) (h2 : t * (4 * N + 10) ≤ b) : tot own t ≤ t * b := by
 refine zFX (fun k hk => ?_)
 have hlt : k < Y.ts.length := by rw [ho.len]; exact hk
 cases hq : Y.ts[k]? with
 | none =>
  have := List.getElem?_eq_none_iff.1 hq
  omega
 | some a =>
  cases a with
  | none =>
   rw [(h.idle k (fun a ha => by rw [hq] at ha; cases ha)).1]
   exact Nat.zero_le _
  | some a =>
   have hb := (h.books k a.1 a.2 hq).le
   refine Nat.le_trans hb ?_
   rw [hN k]
   have h3 := zFw (f := tn) h.one hk
   cases ha : a.1 with
   | pu q => exact h1
   | ge q =>
    show (tot tn t - tn k + 1) * (4 * N + 10) ≤ b
    exact Nat.le_trans (Nat.mul_le_mul_right _ h3) h2
theorem Stretch.call (h : Stretch pl t put Y own tn) {w : Nat} {kd e x s : Int} {T : Wk} (hw : Y.ts[w]? = some .none) (hT : OLeft (pl w) T Y.C put 0 0) : Stretch pl t put (Y.call w kd e x s T) own tn := by
 obtain ⟨i1, i2⟩ := h.idle w (fun a ha => by rw [hw] at ha; cases ha)
 have hset : ∀ k, (Y.call w kd e x s T).ts[k]? = if w = k then (if w < Y.ts.length then some (some (T, Y.ds.length)) else .none) else Y.ts[k]? := fun k => by
  show (Y.ts.set w (some (T, Y.ds.length)))[k]? = _
  rw [List.getElem?_set]
 refine ⟨fun k T' i hk => ?_, h.one, fun k T' i hk hu => ?_, fun k hk => ?_⟩
 ·rw [hset] at hk
  split at hk
  ·rename_i e1
   subst e1
   split at hk
   ·cases hk
    rw [i1]
    exact hT.more (Nat.zero_le _)
   ·cases hk
  ·exact h.books k T' i hk
 ·rw [hset] at hk
  split at hk
  ·rename_i e1
   subst e1
   omega
  ·exact h.last k T' i hk hu
 ·by_cases e1 : w = k
  ·subst e1
   exact ⟨i1, i2⟩
  ·exact h.idle k (fun a ha => hk a (by rw [hset, if_neg e1]; exact ha))
theorem Stretch.step (h : Stretch pl t put Y own tn) (ho : YOk pl t n Y) (hN : ∀ k, (pl k).N = N) {w : Nat} {T : Wk} {i : Nat} {z : Int} (hw : Y.ts[w]? = some (some (T, i))) (ha : T.ask Y.C z) (hf : ∀ j, 0 ≤ Y.C.getD j 0) (hp : (T.step (pl w) Y.C Y.now z).ph = 0) :
  ∃ tn', Stretch pl t put (Y.step (pl w) w T i z) (updN own w (own w + 1)) tn' ∧ tot (updN own w (own w + 1)) t = tot own t + 1 := by
 have hwt : w < t := by rw [← ho.len]; exact (List.getElem?_eq_some_iff.1 hw).1
 obtain ⟨k1, k2, k3, k4, _⟩ := ho.task w T i hw
 have hu0 : tn w = 0 := by
  have := h.one w
  by_cases e : tn w = 1
  ·have h1 := Wk.last_over (P := pl w) (C := Y.C) (now := Y.now) (z := z) k1 (h.last w T i hw e)
   omega
  ·omega
 have htot : tot (updN own w (own w + 1)) t = tot own t + 1 := by rw [zD5, if_pos hwt]
 have hidle : ∀ k, (∀ a, (Y.step (pl w) w T i z).ts[k]? ≠ some (some a)) → k ≠ w ∧ ∀ a, Y.ts[k]? ≠ some (some a) := fun k hk => by
  have e1 : (Y.step (pl w) w T i z).ts = Y.ts.set w (some (T.step (pl w) Y.C Y.now z, i)) := if_pos hp
  have hne : k ≠ w := fun e => by
   subst e
   refine hk (T.step (pl k) Y.C Y.now z, i) ?_
   rw [e1, List.getElem?_set_self (List.getElem?_eq_some_iff.1 hw).1]
  refine ⟨hne, fun a ha => hk a ?_⟩
  rw [e1, List.getElem?_set_ne (fun e => hne e.symm)]
  exact ha
 rcases Wk.words (now := Y.now) (z := z) k1 k4 with hs | ⟨_, hl⟩
 ·rw [hN w] at hs
  obtain ⟨g1, g2⟩ := h.books.step ho hN hw ha hf (dl := 0) (.inl hs)
  refine ⟨tn, ⟨fun k T' i' hk => ?_, h.one, fun k T' i' hk hu => ?_, fun k hk => ?_⟩, htot⟩
  ·have h9 := g2 k T' i' hk
   by_cases e : k = w
   ·subst e
    rw [zB9] at h9
    exact h9
   ·rw [zBi e] at h9
    exact h9
  ·rcases zBv hk with ⟨rfl, _⟩ | ⟨hne, hk⟩
   ·omega
   ·exact h.last k T' i' hk hu
  ·obtain ⟨hne, hk'⟩ := hidle k hk
   rw [zAU hne]
   exact h.idle k hk'
 ·have hlast : (T.step (pl w) Y.C Y.now z).last := by
   rcases hl with hl | hl
   ·omega
   ·exact hl
  obtain ⟨g1, g2⟩ := h.books.step ho hN hw ha hf (dl := 1) (.inr (Nat.le_refl _))
  have htu : tot (updN tn w 1) t = tot tn t + 1 := by
   have := zD5 tn w t
   rw [hu0, if_pos hwt] at this
   exact this
  refine ⟨updN tn w 1, ⟨fun k T' i' hk => ?_, fun k => ?_, fun k T' i' hk hu => ?_, fun k hk => ?_⟩, htot⟩
  ·have h9 := g2 k T' i' hk
   show OLeft (pl k) T' (Y.step (pl w) w T i z).C put _ (tot (updN tn w 1) t - updN tn w 1 k)
   by_cases e : k = w
   ·subst e
    rw [zB9, hu0] at h9
    show OLeft _ _ _ put (updN own k (own k + 1) k) (tot (updN tn k 1) t - updN tn k 1 k)
    rw [zA1 tn, htu]
    exact h9.more (by omega)
   ·rw [zBi e] at h9
    rw [htu, zAU (f := tn) e]
    have hkt : k < t := by
     rcases zBv hk with ⟨e2, _⟩ | ⟨_, hk2⟩
     ·exact absurd e2 e
     ·rw [← ho.len]
      exact (List.getElem?_eq_some_iff.1 hk2).1
    have hg := zFN (f := tn) hkt
    have hle : (tot tn t - tn k) + 1 ≤ tot tn t + 1 - tn k := by omega
    exact OLeft.more h9 hle
  ·by_cases e : k = w
   ·subst e
    rw [zA1]
    exact Nat.le_refl _
   ·rw [zAU e]
    exact h.one k
  ·rcases zBv hk with ⟨rfl, rfl, _⟩ | ⟨hne, hk⟩
   ·exact hlast
   ·rw [zAU hne] at hu
    exact h.last k T' i' hk hu
  ·obtain ⟨hne, hk'⟩ := hidle k hk
   rw [zAU hne, zAU hne]
   exact h.idle k hk'
theorem Stretch.ended (h : Stretch pl t put Y own tn) (ho : YOk pl t n Y) (hN : ∀ k, (pl k).N = N) {w : Nat} {T : Wk} {i : Nat} {z : Int} (hw : Y.ts[w]? = some (some (T, i))) (ha : T.ask Y.C z) (hf : ∀ j, 0 ≤ Y.C.getD j 0) :
  Stretch pl t put (Y.step (pl w) w T i z) (fun _ => 0) (fun _ => 0) := by
 obtain ⟨g1, g2⟩ := h.books.step ho hN hw ha hf (dl := 1) (.inr (Nat.le_refl _))
 exact ⟨fun k T' i' hk => (g2 k T' i' hk).again.more (Nat.zero_le _), fun _ => Nat.zero_le _, fun k T' i' _ hu => absurd hu (by decide), fun _ _ => ⟨rfl, rfl⟩⟩
end
theorem OLeft.begun {t s so d who e x start m : Int} {N nb h0 hw put : Nat} {C : List Int} (take : Bool) (hl : Lay t s N) (hput : s * (t + 1) + most t so d + 2 = (put : Int)) : OLeft ⟨N, m, nb, h0, hw⟩ (wk0 t s so d who take e x start m N) C put 0 0 := by
 refine OLeft.new ?_
 cases take with
 | true =>
  show GLeft N (ge0 t s so d who e start N) C ((0 + 1) * (4 * N + 10))
  rw [Nat.zero_add, Nat.one_mul]
  exact GLeft.start hl
 | false =>
  show (pu0 t s so d who e x m).rem m ≤ (put : Int)
  rw [zF1]
  omega
end
section
open Go.RowKit
def busyN (Y : Yd) : Nat := Y.ts.countP Option.isSome
def FinM (pl : Nat → Pl) (t put b : Nat) (Y : Yd) (μ : Nat) : Prop := ∃ s tu, Stretch pl t put Y s tu ∧ busyN Y * (t * b + 1) + (t * b - tot s t) ≤ μ
section
variable {pl : Nat → Pl} {t n N put b μ : Nat} {Y : Yd}
theorem FinM.of (h : Books pl put Y (fun _ => 0) (fun _ => 0)) : FinM pl t put b Y (busyN Y * (t * b + 1) + t * b) := by
 refine ⟨fun _ => 0, fun _ => 0, ⟨fun k T i hk => ?_, fun _ => Nat.zero_le _, fun k T i _ hu => absurd hu (by decide), fun _ _ => ⟨rfl, rfl⟩⟩, ?_⟩
 ·have h1 := h k T i hk
  have e : tot (fun _ => 0) t - 0 = 0 := by rw [zC5 (fun _ => rfl)]
  show OLeft (pl k) T Y.C put 0 (tot (fun _ => 0) t - 0)
  rw [e]
  exact h1
 ·rw [zC5 (fun _ => rfl)]
  omega
theorem zIE (ho : YOk pl t n Y) : busyN Y ≤ t := by
 have := List.countP_le_length (p := Option.isSome) (l := Y.ts)
 rw [ho.len] at this
 exact this
theorem zGR {w : Nat} {a a' : Wk × Nat} (hw : Y.ts[w]? = some (some a)) : (Y.ts.set w (some a')).countP Option.isSome = busyN Y := by
 obtain ⟨hl, he⟩ := List.getElem?_eq_some_iff.1 hw
 have hpos : 0 < Y.ts.countP Option.isSome := List.countP_pos_iff.2 ⟨_, List.getElem_mem hl, by rw [he]; rfl⟩
 rw [List.countP_set hl, he]
 show Y.ts.countP Option.isSome - 1 + 1 = Y.ts.countP Option.isSome
 omega
theorem zGl {w : Nat} {a : Wk × Nat} (hw : Y.ts[w]? = some (some a)) : (Y.ts.set w none).countP Option.isSome + 1 = busyN Y := by
 obtain ⟨hl, he⟩ := List.getElem?_eq_some_iff.1 hw
 have hpos : 0 < Y.ts.countP Option.isSome := List.countP_pos_iff.2 ⟨_, List.getElem_mem hl, by rw [he]; rfl⟩
 rw [List.countP_set hl, he]
 show Y.ts.countP Option.isSome - 1 + 0 + 1 = Y.ts.countP Option.isSome
 omega
theorem FinM.step (h : FinM pl t put b Y μ) (ho : YOk pl t n Y) (hN : ∀ k, (pl k).N = N) (ht : 1 ≤ t) (h1 : put ≤ b) (h2 : t * (4 * N + 10) ≤ b) {w : Nat} {T : Wk} {i : Nat} {z : Int} (hw : Y.ts[w]? = some (some (T, i))) (ha : T.ask Y.C z) (hf : ∀ j, 0 ≤ Y.C.getD j 0)
  {n' : Nat} (ho' : YOk pl t n' (Y.step (pl w) w T i z)) : ∃ μ', μ' < μ ∧ FinM pl t put b (Y.step (pl w) w T i z) μ' := by
 obtain ⟨s, tu, hS, hμ⟩ := h
 have hs := hS.short ho hN ht h1 h2
 by_cases hp : (T.step (pl w) Y.C Y.now z).ph = 0
 ·obtain ⟨tu', hS', htot⟩ := hS.step ho hN hw ha hf hp
  have hs' := hS'.short ho' hN ht h1 h2
  refine ⟨busyN Y * (t * b + 1) + (t * b - tot s t) - 1, by omega, _, tu', hS', ?_⟩
  have e : busyN (Y.step (pl w) w T i z) = busyN Y := by
   show (if (T.step (pl w) Y.C Y.now z).ph = 0 then Y.ts.set w (some (T.step (pl w) Y.C Y.now z, i)) else Y.ts.set w none).countP Option.isSome = _
   rw [if_pos hp]
   exact zGR hw
  rw [e, htot]
  rw [htot] at hs'
  omega
 ·have e : busyN (Y.step (pl w) w T i z) + 1 = busyN Y := by
   show (if (T.step (pl w) Y.C Y.now z).ph = 0 then Y.ts.set w (some (T.step (pl w) Y.C Y.now z, i)) else Y.ts.set w none).countP Option.isSome + 1 = _
   rw [if_neg hp]
   exact zGl hw
  refine ⟨busyN Y * (t * b + 1) + (t * b - tot s t) - 1, ?_, _, _, hS.ended ho hN hw ha hf, ?_⟩
  ·rw [← e, Nat.add_mul, Nat.one_mul] at hμ ⊢
   omega
  ·rw [← e, Nat.add_mul, Nat.one_mul, zC5 (fun _ => rfl)]
   omega
end
inductive Tick (B : YB) (N : Nat) (Y0 : Yd) : Nat → Yd → Nat → Prop
 | zero : Tick B N Y0 0 Y0 0
 | skip {j : Nat} {Y : Yd} {s : Nat} (h : Tick B N Y0 j Y s) (hn : Y.ts[j % B.T]? = some none) : Tick B N Y0 (j + 1) Y s
 | step {j : Nat} {Y : Yd} {s : Nat} (h : Tick B N Y0 j Y s) (T : Wk) (i : Nat) (z : Int) (hk : Y.ts[j % B.T]? = some (some (T, i))) (ha : T.ask Y.C z) : Tick B N Y0 (j + 1) (Y.step (plOf B N (j % B.T)) (j % B.T) T i z) (s + 1)
section
variable {B B' : YB} {N : Nat} {Y0 Y Y' : Yd} {j s s' : Nat}
theorem Tick.like (h : Tick B N Y0 j Y s) (hB : B.like B') : Tick B' N Y0 j Y s := by
 obtain ⟨yb, tb, p, c, t, st, so, d, T⟩ := B
 obtain ⟨yb', tb', p', c', t', st', so', d', T'⟩ := B'
 obtain ⟨h1, h2, h3, h4, h5⟩ := hB
 simp only at h1 h2 h3 h4 h5
 subst h1 h2 h3 h4 h5
 induction h with
 | zero => exact .zero
 | skip h hn ih => exact .skip ih hn
 | step h T i z hk ha ih => exact .step ih T i z hk ha
theorem Tick.moves (h : Tick B N Y0 j Y s) : Y.moves = Y0.moves + s := by
 induction h with
 | zero => rfl
 | skip h hn ih => exact ih
 | step h T i z hk ha ih =>
  show _ + 1 = _
  rw [ih]
  omega
end
end
section
open Go.RowKit
structure FnL (W w : World) (l : List Thing) (B : YB) (N : Nat) (Yf : Nat → Yd) (n : Nat) (Q b μ0 : Nat) (Y : Yd) (J : Nat → Nat) (j s : Nat) (Yg : Nat → Yd) (l0 : List Thing) (J0 : Nat → Nat) : Prop where
 yd : YdL W w l B N Y J (n + s)
 tr : YTr B N Yg (n + s)
 at' : Yg (n + s) = Y
 same : ∀ i, i ≤ n → Yg i = Yf i
 tick : Tick B N (Yf n) j Y s
 fin : ∃ μ, s + μ ≤ μ0 ∧ FinM (plOf B N) B.T Q b Y μ
 go : YGo (Yf n) Y l0 l J0 J
section
variable {W w w' : World} {l l' l0 : List Thing} {B : YB} {N n Q b μ0 j s : Nat} {Yf Yg : Nat → Yd} {Y : Yd} {J J' J0 : Nat → Nat}
theorem FnL.later (h : FnL W w l B N Yf n Q b μ0 Y J j s Yg l0 J0) (e : Below w.heap.size w w') : FnL W w' l B N Yf n Q b μ0 Y J j s Yg l0 J0 := ⟨h.yd.later e, h.tr, h.at', h.same, h.tick, h.fin, h.go⟩
theorem FnL.start (h : YdL W w l B N (Yf n) J n) (ht : YTr B N Yf n) (hf : FinM (plOf B N) B.T Q b (Yf n) μ0) : FnL W w l B N Yf n Q b μ0 (Yf n) J 0 0 Yf l J :=
 ⟨h, ht, rfl, fun _ _ => rfl, .zero, ⟨μ0, by omega, hf⟩, YGo.refl _ _ _⟩
theorem FnL.few (h : FnL W w l B N Yf n Q b μ0 Y J j s Yg l0 J0) : s ≤ μ0 := by obtain ⟨μ, h1, _⟩ := h.fin; omega
theorem FnL.skip (h : FnL W w l B N Yf n Q b μ0 Y J j s Yg l0 J0) {i r : Nat} (hj : j = r * B.T + i) (hi : i < B.T) (hn : Y.ts[i]? = some none) : FnL W w l B N Yf n Q b μ0 Y J (j + 1) s Yg l0 J0 :=
 ⟨h.yd, h.tr, h.at', h.same, .skip h.tick (by rw [hj, Nat.mul_comm r B.T, Nat.mul_add_mod, Nat.mod_eq_of_lt hi]; exact hn), h.fin, h.go⟩
theorem FnL.step (h : FnL W w l B N Yf n Q b μ0 Y J j s Yg l0 J0) {i r : Nat} (hj : j = r * B.T + i) (hi : i < B.T) (h1 : Q ≤ b) (h2 : B.T * (4 * N + 10) ≤ b) (hn : n + μ0 < 1000000) {T : Wk} {q : Nat} {z : Int} (hk : Y.ts[i]? = some (some (T, q))) (ha : T.ask Y.C z) (hl : YH W w' l' B (Y.step (plOf B N i) i T q z) J') (hg : YGo Y (Y.step (plOf B N i) i T q z) l l' J J') :
  ∃ Yg', FnL W w' l' B N Yf n Q b μ0 (Y.step (plOf B N i) i T q z) J' (j + 1) (s + 1) Yg' l0 J0 := by
 obtain ⟨μ, hμ, hF⟩ := h.fin
 have hlt := h.yd.ok
 have hmv : YMv (plOf B N) Y (Y.step (plOf B N i) i T q z) := .step i T q z hk ha
 have hyd := h.yd.next (by omega) hmv hl
 obtain ⟨μ', hμ', hF'⟩ := hF.step hlt (fun _ => rfl) (by omega) h1 h2 hk ha (fun j => (h.yd.h.fit j).1) hyd.ok
 have hhow : YHow B N (Yg (n + s)) (Y.step (plOf B N i) i T q z) := by rw [h.at']; exact .step i T q z hk ha
 have htr := h.tr.snoc hhow (by rw [h.at']; exact hmv) hyd.h.fit (by omega)
 refine ⟨fun k => if k ≤ n + s then Yg k else Y.step (plOf B N i) i T q z, hyd, htr, if_neg (by omega), fun k hk => ?_, ?_, ⟨μ', by omega, hF'⟩, h.go.trans hg⟩
 ·show (if k ≤ n + s then Yg k else _) = _
  rw [if_pos (by omega)]
  exact h.same k hk
 ·have e : i = j % B.T := by rw [hj, Nat.mul_comm r B.T, Nat.mul_add_mod, Nat.mod_eq_of_lt hi]
  have := Tick.step h.tick T q z (by rw [← e]; exact hk) ha
  rw [← e] at this
  exact this
end
def FinPost (W w : World) (l : List Thing) (B : YB) (N : Nat) (Yf : Nat → Yd) (n Q b μ0 : Nat) (J : Nat → Nat) (r : Ending) (w' : World) : Prop :=
 ∃ (s j : Nat) (l' : List Thing) (Y' : Yd) (J' : Nat → Nat) (Yg : Nat → Yd), r = .returned (i64 s) ∧ FnL W w' l' B N Yf n Q b μ0 Y' J' j s Yg l J ∧ ∀ k, k < B.T → Y'.ts[k]? = some none
theorem zF0 {Y : Yd} {P : Pl} {k : Nat} {T : Wk} {i : Nat} {z : Int} {j : Nat} (hj : j ≠ k) : (Y.step P k T i z).ts[j]? = Y.ts[j]? := by
 show (if _ then Y.ts.set k _ else Y.ts.set k _)[j]? = _
 split
 ·rw [List.getElem?_set_ne (fun e => hj e.symm)]
 ·rw [List.getElem?_set_ne (fun e => hj e.symm)]
theorem zHz (t s so d : Int) (w : World) : (Instr.field 24 (cf t s so d) 0).run Tryz.prog w = .ok (i64 t) w := by
 simp [Instr.field, go_sem, asAgg]
theorem zHx {W w : World} {l : List Thing} {B : YB} {N n Q b μ0 : Nat} {Yf : Nat → Yd} {J : Nat → Nat} (h : YdL W w l B N (Yf n) J n) (ht : YTr B N Yf n) (hf : FinM (plOf B N) B.T Q b (Yf n) μ0) (h1 : Q ≤ b) (h2 : B.T * (4 * N + 10) ≤ b) (hn : n + μ0 < 1000000) :
  Calls Tryz.prog 28 #[pt B.yb] w (FinPost W w l B N Yf n Q b μ0 J) := by
 have HF0 := zIW (FnL.start h ht hf)
 have HT := zIW h.hT
 have hT64 : B.T ≤ 64 := by have := h.cf.lay.t2; have := h.hT; omega
 clear h ht hf
 go_enter Tryz.func28, Tryz.ntmps28
 go_wp2_with fail
 go_loopw [3, 4] (fun sv bv wr => ∃ (r s : Nat) (bz : Bool) (lx : List Thing) (Y : Yd) (Jx : Nat → Nat) (Yg : Nat → Yd), sv = .int .i64 s ∧ bv = .bool bz ∧ Hid (FnL W wr lx B N Yf n Q b μ0 Y Jx (r * B.T) s Yg l J) ∧ Hid (bz = false → ∀ k, k < B.T → Y.ts[k]? = some none)) (fun sv bv _ => 2 * (μ0 - (RowKit.intOf sv).toNat) + (match bv with | .bool true => 1 | _ => 0))
 case atStart => exact ⟨0, 0, true, _, _, _, _, rfl, rfl, (by rw [Nat.zero_mul]; exact HF0), zIW (fun h => by cases h)⟩
 case round =>
  clear HF0
  obtain ⟨r, s, bz, lx, Y, Jx, Yg, rfl, rfl, HF, HZ⟩ := hrel
  cases bz with
  | false =>
   go_wp2_with fail
   go_ret
   exact ⟨s, _, lx, Y, Jx, Yg, rfl, HF.out, HZ.out trivial⟩
  | true =>
   obtain ⟨v, vd, X, hA⟩ := HF.out.yd.h
   have HA := zIW hA
   clear hA HZ
   go_wp2_with fail
   refine (zGB HA.out).mono ?_
   rintro r2 w2 ⟨rfl, hb⟩
   have HF2 := zIW (HF.out.later hb)
   have HS0 : Hid (s ≤ s) := zIW (Nat.le_refl _)
   clear hb HA HF
   have hfl := zHz B.t B.s B.so B.d w2
   go_wp2_with fail
   clear hfl
   go_loopw [3, 4, 10] (fun sv bv iv wx => ∃ (s' i : Nat) (bz : Bool) (ly : List Thing) (Y : Yd) (Jy : Nat → Nat) (Yg : Nat → Yd), i ≤ B.T ∧ s ≤ s' ∧ sv = .int .i64 s' ∧ bv = .bool bz ∧ iv = .int .i64 i ∧ Hid (FnL W wx ly B N Yf n Q b μ0 Y Jy (r * B.T + i) s' Yg l J) ∧ Hid (bz = true → s < s') ∧ Hid (bz = false → ∀ k, k < i → Y.ts[k]? = some none)) (fun _ _ iv _ => B.T - (RowKit.intOf iv).toNat)
   case atStart => exact ⟨s, 0, false, _, _, _, _, Nat.zero_le _, Nat.le_refl _, rfl, rfl, rfl, HF2, zIW (fun h => by cases h), zIW (fun _ k hk => absurd hk (Nat.not_lt_zero _))⟩
   case round =>
    clear HF2
    obtain ⟨s', i, bz, ly, Y, Jy, Yg, hi, hs, rfl, rfl, rfl, HF, HU, HV⟩ := hrel
    rcases Nat.lt_or_ge i B.T with hlt | hge
    ·have hi' : (i : Int) < B.t := by have := HT.out; omega
     go_wp2_with fail
     refine (zDj HF.out.yd.cf HF.out.yd.h HF.out.yd.ok (by have := HF.out.few; omega) i).mono ?_
     rintro r2 w3 ⟨bs, l3, J3, Y3, rfl, hl3, hg3, h3⟩
     have HL := zIW hl3
     have HG := zIW hg3
     have H3 := zIW h3
     clear hl3 hg3 h3
     cases bs with
     | false =>
      have HI : Hid (Y.ts[i]? = some none) := zIW (by
       rcases H3.out with ⟨_, _, h5⟩ | ⟨h4, _⟩
       ·cases hq : Y.ts[i]? with
        | none =>
         rw [List.getElem?_eq_none_iff] at hq
         have := HF.out.yd.ok.len
         omega
        | some a =>
         cases a with
         | none => rfl
         | some a => exact absurd hq (h5 i rfl a)
       ·cases h4)
      have HF3 : Hid (FnL W w3 l3 B N Yf n Q b μ0 Y J3 (r * B.T + (i + 1)) s' Yg l J) := zIW (by
       rcases H3.out with ⟨_, h4, _⟩ | ⟨h4, _⟩
       ·have hL := HL.out
        have hG := HG.out
        rw [h4] at hL hG
        have h := HF.out.skip rfl hlt HI.out
        exact ⟨⟨hL, h.yd.ok, h.yd.len, h.yd.cf, h.yd.hT⟩, h.tr, h.at', h.same, h.tick, h.fin, h.go.trans hG⟩
       ·cases h4)
      clear HF HL HG H3
      cases bz with
      | true =>
       go_wp2_with fail
       go_roundw
       case rel => exact ⟨s', i + 1, true, l3, Y, J3, Yg, by have := HT.out; omega, hs, rfl, rfl, by go_num, HF3, zIW (fun _ => HU.out trivial), zIW (fun h => by cases h)⟩
       case measure => have := HT.out; first | omega | (simp [RowKit.intOf]; done) | (simp [RowKit.intOf]; omega)
      | false =>
       go_wp2_with fail
       refine (HF3.out.yd.busy i false ⟨_, HI.out, rfl⟩).mono ?_
       rintro r2 w4 ⟨rfl, rfl⟩
       go_wp2_with fail
       go_roundw
       case rel => exact ⟨s', i + 1, false, l3, Y, J3, Yg, by have := HT.out; omega, hs, rfl, rfl, by go_num, HF3, zIW (fun h => by cases h), zIW (fun _ k hk => by
        by_cases e : k = i
        ·rw [e]; exact HI.out
        ·exact HV.out trivial k (by omega))⟩
       case measure => have := HT.out; first | omega | (simp [RowKit.intOf]; done) | (simp [RowKit.intOf]; omega)
     | true =>
      obtain ⟨T, q, z, HK, Yg3, HF3⟩ : ∃ (T : Wk) (q : Nat) (z : Int), Hid (Y.ts[i]? = some (some (T, q))) ∧ ∃ Yg3, Hid (FnL W w3 l3 B N Yf n Q b μ0 (Y.step (plOf B N i) i T q z) J3 (r * B.T + (i + 1)) (s' + 1) Yg3 l J) := by
       rcases H3.out with ⟨h4, _⟩ | ⟨_, k, T, q, z, h5, h6, h7, h8⟩
       ·cases h4
       ·obtain rfl : k = i := by omega
        have hL := HL.out
        have hG := HG.out
        rw [h8] at hL hG
        obtain ⟨Yg3, h9⟩ := HF.out.step rfl hlt h1 h2 hn h6 h7 hL hG
        exact ⟨T, q, z, zIW h6, Yg3, zIW h9⟩
      obtain ⟨a, HA1⟩ : ∃ a, Hid ((Y.step (plOf B N i) i T q z).ts[i]? = some a) := by
       cases hq : (Y.step (plOf B N i) i T q z).ts[i]? with
       | none =>
        rw [List.getElem?_eq_none_iff] at hq
        have := HF3.out.yd.ok.len
        omega
       | some a => exact ⟨a, zIW rfl⟩
      have HV3 : Hid (bz = false → ∀ k, k < i → (Y.step (plOf B N i) i T q z).ts[k]? = some none) := zIW (fun hb k hk => by
       rw [zF0 (by omega)]
       exact HV.out hb k hk)
      have hsb : s' < 1000000 := by have := HF3.out.few; omega
      generalize Y.step (plOf B N i) i T q z = Y4 at HF3 HA1 HV3
      clear HF HL HG H3 HV
      cases bz with
      | true =>
       go_wp2_with fail
       go_roundw
       case rel => exact ⟨s' + 1, i + 1, true, l3, Y4, J3, Yg3, by have := HT.out; omega, by omega, by go_num, rfl, by go_num, HF3, zIW (fun _ => by omega), zIW (fun h => by cases h)⟩
       case measure => have := HT.out; first | omega | (simp [RowKit.intOf]; done) | (simp [RowKit.intOf]; omega)
      | false =>
       go_wp2_with fail
       refine (HF3.out.yd.busy i a.isSome ⟨_, HA1.out, rfl⟩).mono ?_
       rintro r2 w4 ⟨rfl, rfl⟩
       go_wp2_with fail
       go_roundw
       case rel => exact ⟨s' + 1, i + 1, a.isSome, l3, Y4, J3, Yg3, by have := HT.out; omega, by omega, by go_num, rfl, by go_num, HF3, zIW (fun _ => by omega), zIW (fun hz k hk => by
        by_cases e : k = i
        ·rw [e, HA1.out]
         cases a with
         | none => rfl
         | some a => cases hz
        ·exact HV3.out trivial k (by omega))⟩
       case measure => have := HT.out; first | omega | (simp [RowKit.intOf]; done) | (simp [RowKit.intOf]; omega)
    ·obtain rfl : i = B.T := by omega
     have hnn : ¬ (B.T : Int) < B.t := by have := HT.out; omega
     have hfew := HF.out.few
     go_wp2_with fail
     go_roundw
     case rel => exact ⟨r + 1, s', bz, ly, Y, Jy, Yg, rfl, rfl, (by rw [Nat.add_mul, Nat.one_mul]; exact HF), HV⟩
     case measure =>
      cases bz with
      | true =>
       have := HU.out rfl
       simp [RowKit.intOf]
       omega
      | false =>
       simp [RowKit.intOf]
       omega
end
section
open Go.RowKit
structure Row8 (w : World) (A : Option Addr) (l : List Int) : Prop where
 at' : IsAt w A (l.map u8)
 byt : Byt l
theorem Row8.later {w w' : World} {A : Option Addr} {l : List Int} (h : Row8 w A l) (e : Below w.heap.size w w') : Row8 w' A l := ⟨h.at'.later e, h.byt⟩
theorem Row8.own {w : World} {base n cap : Nat} {A : Option Addr} {l : List Int} (h : w.ownsRow base 5 1 (.slice A n cap) n (l.map u8)) (hb : Byt l) : Row8 w A l := ⟨IsAt.own h, hb⟩
theorem zGv (w : World) (m : CM) : IsAt (w.alloc (m.obj 39)) (some ⟨w.heap.size, 0, none⟩) (flatM [m]) := fun _ =>
 ⟨w.heap.size, 0, rfl, by simp, fun j u hj => by
  rw [Nat.zero_add]
  have h := (IsObj.made w m.list 39).at' j u (by rw [flatM, flatM, List.append_nil] at hj; exact hj)
  exact h⟩
theorem EncIs.yes {w' : World} {base : Nat} {t s so d : Int} {ms : List CM} {v : Value} {e : Int} (h : EncIs w' base t s so d ms v e) (hr : rightC t s so d = true) (hn : ms.length ≤ 65536) (hm : ∀ m ∈ ms, m.Right) : e = 0 ∧ Own8 w' base v ([t, s, so, d] ++ encs ms) := by
 cases h with
 | conf h => rw [hr] at h; cases h
 | many _ h => omega
 | arg _ _ h => obtain ⟨m, h1, h2⟩ := h; exact absurd (hm m h1) h2
 | ok _ _ _ _ ho => exact ⟨rfl, ho⟩
theorem DecIs.yes {l : List Int} {ms : List CM} {n e : Int} (h : DecIs l ms n e) (he : e = 0) : (∀ m ∈ ms, m.Good) ∧ ms.length ≤ 65536 ∧ l = encs ms := by
 cases h with
 | ok _ h1 h2 h3 => exact ⟨h1, h2, h3⟩
 | form _ _ _ _ _ _ _ => exact absurd he (by decide)
 | many _ _ _ _ _ _ _ => exact absurd he (by decide)
theorem DecPost.yes {w' : World} {base : Nat} {l : List Int} {v : Value} {n e t s so d : Int} {ms : List CM} (h : DecPost w' base l v n e) (hl : l = t :: s :: so :: d :: encs ms) (hr : rightC t s so d = true) (hg : ∀ m ∈ ms, m.Good) (hn : ms.length ≤ 65536) :
  e = 0 ∧ n = (l.length : Int) ∧ ∃ A cp, v = scV t s so d (.slice A ms.length cp) ∧ w'.ownsRow base 39 7 (.slice A ms.length cp) ms.length (flatM ms) := by
 cases h with
 | short h =>
  rw [hl] at h
  simp at h
  omega
 | conf t' s' so' d' r' h hr' =>
  rw [hl] at h
  simp only [List.cons.injEq] at h
  obtain ⟨rfl, rfl, rfl, rfl, _⟩ := h
  rw [hr] at hr'
  cases hr'
 | bad t' s' so' d' r' n' e' h hr' hd he =>
  rw [hl] at h
  simp only [List.cons.injEq] at h
  obtain ⟨rfl, rfl, rfl, rfl, rfl⟩ := h
  exact absurd (hd.of hg hn).2.2 he
 | ok t' s' so' d' r' ms' A cp h hr' hd ho =>
  rw [hl] at h
  simp only [List.cons.injEq] at h
  obtain ⟨rfl, rfl, rfl, rfl, rfl⟩ := h
  obtain ⟨rfl, _⟩ := hd.of hg hn
  exact ⟨rfl, rfl, A, cp, rfl, ho⟩
end
section
open Go.RowKit
def B19 : YB := ⟨0, 0, 0, 0, (2 : Nat), 1, 0, 0, 2⟩
def lookF (B : YB) (N : Nat) (z : Nat → Int) (Y0 : Yd) : Nat → Yd × Nat
 | 0 => (Y0, 0)
 | j + 1 => match (lookF B N z Y0 j).1.ts[j % B.T]? with
  | some (some (T, i)) => ((lookF B N z Y0 j).1.step (plOf B N (j % B.T)) (j % B.T) T i (z j), (lookF B N z Y0 j).2 + 1)
  | _ => lookF B N z Y0 j
theorem Tick.look {B : YB} {N : Nat} {Y0 Y : Yd} {j s : Nat} {z : Nat → Int} (h : Tick B N Y0 j Y s)
  (hz : ∀ (j : Nat) (T : Wk) (i : Nat) (z' : Int), (lookF B N z Y0 j).1.ts[j % B.T]? = some (some (T, i)) → T.ask (lookF B N z Y0 j).1.C z' → T.step (plOf B N (j % B.T)) (lookF B N z Y0 j).1.C (lookF B N z Y0 j).1.now z' = T.step (plOf B N (j % B.T)) (lookF B N z Y0 j).1.C (lookF B N z Y0 j).1.now (z j)) :
  lookF B N z Y0 j = (Y, s) := by
 induction h with
 | zero => rfl
 | @skip j Y s h hn ih =>
  show (match (lookF B N z Y0 j).1.ts[j % B.T]? with
   | some (some (T, i)) => ((lookF B N z Y0 j).1.step (plOf B N (j % B.T)) (j % B.T) T i (z j), (lookF B N z Y0 j).2 + 1)
   | _ => lookF B N z Y0 j) = _
  rw [ih]
  simp only
  rw [hn]
 | @step j Y s h T i z' hk ha ih =>
  have e := hz j T i z' (by rw [ih]; exact hk) (by rw [ih]; exact ha)
  show (match (lookF B N z Y0 j).1.ts[j % B.T]? with
   | some (some (T, i)) => ((lookF B N z Y0 j).1.step (plOf B N (j % B.T)) (j % B.T) T i (z j), (lookF B N z Y0 j).2 + 1)
   | _ => lookF B N z Y0 j) = _
  rw [ih] at e ⊢
  simp only at e ⊢
  rw [hk]
  simp only
  unfold Yd.step
  rw [e]
theorem zDa {B : YB} {N : Nat} {Y0 : Yd} {z : Nat → Int} {q : Nat} (h : ∀ a, a ∈ (lookF B N z Y0 q).1.ts → a = none) : ∀ k, lookF B N z Y0 (q + k) = lookF B N z Y0 q
 | 0 => rfl
 | k + 1 => by
  have ih := zDa h k
  show (match (lookF B N z Y0 (q + k)).1.ts[(q + k) % B.T]? with
   | some (some (T, i)) => ((lookF B N z Y0 (q + k)).1.step (plOf B N ((q + k) % B.T)) ((q + k) % B.T) T i (z (q + k)), (lookF B N z Y0 (q + k)).2 + 1)
   | _ => lookF B N z Y0 (q + k)) = _
  rw [ih]
  cases hq : (lookF B N z Y0 q).1.ts[(q + k) % B.T]? with
  | none => rfl
  | some a =>
   have := h a (List.mem_of_getElem? hq)
   subst this
   rfl
def Y19 : Yd := (yd0 2 2).call 0 0 0 7 0 (wkB B19 2 0 false 0 7 0)
theorem zHi : ∀ j, j < 8 → (∃ k i, (lookF B19 2 (fun _ => 0) Y19 j).1.ts = [some (.pu k, i), none]) ∨ j = 7 ∧ (lookF B19 2 (fun _ => 0) Y19 j).1.ts = [none, none]
 | 0, _ => .inl ⟨_, _, rfl⟩
 | 1, _ => .inl ⟨_, _, rfl⟩
 | 2, _ => .inl ⟨_, _, rfl⟩
 | 3, _ => .inl ⟨_, _, rfl⟩
 | 4, _ => .inl ⟨_, _, rfl⟩
 | 5, _ => .inl ⟨_, _, rfl⟩
 | 6, _ => .inl ⟨_, _, rfl⟩
 | 7, _ => .inr ⟨rfl, rfl⟩
 | j + 8, h => by omega
theorem FinM.mono {pl : Nat → Pl} {t put b μ μ' : Nat} {Y : Yd} (h : FinM pl t put b Y μ) (hm : μ ≤ μ') : FinM pl t put b Y μ' := by
 obtain ⟨s, tu, h1, h2⟩ := h
 exact ⟨s, tu, h1, Nat.le_trans h2 hm⟩
theorem zFd (w : Nat) : updN (fun _ => 0) w 0 = fun _ => 0 := funext (fun k => by unfold updN; split <;> rfl)
theorem YTr.books {B : YB} {N m Q : Nat} {Y : Nat → Yd} (h : YTr B N Y m) (hQ : B.s * (B.t + 1) + most B.t B.so B.d + 2 = (Q : Int)) : ∀ i, i ≤ m → Books (plOf B N) Q (Y i) (fun _ => 0) (fun _ => 0)
 | 0, _ => Books.none (fun k a hk => by
  rw [h.zero] at hk
  have hk' : (List.replicate B.T (none : Option (Wk × Nat)))[k]? = some (some a) := hk
  rw [List.getElem?_replicate] at hk'
  split at hk' <;> cases hk')
 | i + 1, hi => by
  have ih := YTr.books h hQ i (by omega)
  have hok := (h.all i (by omega)).ok
  have hw := h.how i (by omega)
  generalize Y (i + 1) = Z at hw
  cases hw with
  | rest => exact ih
  | call w take kd e x s hq he hk =>
   have h1 := ih.call (kd := kd) (e := e) (x := x) (s := s) hq (OLeft.begun (who := (w : Int)) (e := e) (x := x) (start := s) (m := (w : Int) * B.s) (nb := 2 * N + B.T) (h0 := 2 * N) (hw := 2 * N + w) (C := (Y i).C) take h.cf.lay hQ)
   rw [zFd] at h1
   exact h1
  | step w T i2 z hq ha =>
   obtain ⟨_, g2⟩ := ih.step hok (fun _ => rfl) hq ha (fun j => (h.fit i (by omega) j).1) (dl := 1) (.inr (Nat.le_refl _))
   exact fun k T' i' hk => (g2 k T' i' hk).again.more (Nat.zero_le _)
  | pass k hk => exact ih
structure Fin4 (W w : World) (l : List Thing) (B : YB) (N : Nat) (Yf : Nat → Yd) (n : Nat) (J : Nat → Nat) (w' : World) (s j : Nat) (l' : List Thing) (Y' : Yd) (J' : Nat → Nat) (Yg : Nat → Yd) : Prop where
 yd : YdL W w' l' B N Y' J' (n + s)
 tr : YTr B N Yg (n + s)
 at' : Yg (n + s) = Y'
 same : ∀ i, i ≤ n → Yg i = Yf i
 tick : Tick B N (Yf n) j Y' s
 few : s ≤ 5924
 go : YGo (Yf n) Y' l l' J J'
 idle : ∀ k, k < B.T → Y'.ts[k]? = some none
theorem zG6 {W w : World} {l : List Thing} {B : YB} {N n : Nat} {Yf : Nat → Yd} {J : Nat → Nat} (h : YdL W w l B N (Yf n) J n) (ht : YTr B N Yf n) (hn : n < 990000) (t4 : B.T ≤ 4) (n16 : N ≤ 16) (s4 : B.s ≤ 4) (d3 : B.d ≤ 3) :
  Calls Tryz.prog 28 #[pt B.yb] w fun r w' => ∃ (s j : Nat) (l' : List Thing) (Y' : Yd) (J' : Nat → Nat) (Yg : Nat → Yd), r = .returned (i64 s) ∧ Fin4 W w l B N Yf n J w' s j l' Y' J' Yg := by
 have hT := h.hT
 have hs1 := h.cf.lay.s1
 have ht1 := h.cf.lay.t1
 have hd0 := h.cf.d0
 have hm : 0 ≤ most B.t B.so B.d ∧ most B.t B.so B.d ≤ 6 := by
  unfold most
  repeat' split
  all_goals omega
 have hst : 0 ≤ B.s * (B.t + 1) ∧ B.s * (B.t + 1) ≤ 20 := ⟨Int.mul_nonneg (by omega) (by omega), by
  have h1 : B.s * (B.t + 1) ≤ 4 * (B.t + 1) := Int.mul_le_mul_of_nonneg_right s4 (by omega)
  omega⟩
 obtain ⟨Q, hQ⟩ : ∃ Q : Nat, B.s * (B.t + 1) + most B.t B.so B.d + 2 = (Q : Int) := ⟨(B.s * (B.t + 1) + most B.t B.so B.d + 2).toNat, by omega⟩
 have hbk := ht.books hQ n (Nat.le_refl _)
 have hbu := zIE h.ok
 have hf : FinM (plOf B N) B.T Q 296 (Yf n) 5924 := (FinM.of (t := B.T) (b := 296) hbk).mono (by
  have h1 : busyN (Yf n) * (B.T * 296 + 1) ≤ 4 * (4 * 296 + 1) := Nat.mul_le_mul (by omega) (by omega)
  omega)
 have h2 : B.T * (4 * N + 10) ≤ 296 := Nat.le_trans (Nat.mul_le_mul t4 (show 4 * N + 10 ≤ 74 by omega)) (by decide)
 refine (zHx h ht hf (by omega) h2 (by omega)).mono ?_
 rintro r w' ⟨s, j, l', Y', J', Yg, rfl, h3, h4⟩
 exact ⟨s, j, l', Y', J', Yg, rfl, h3.yd, h3.tr, h3.at', h3.same, h3.tick, h3.few, h3.go, h4⟩
theorem fin19 {j s : Nat} {Y : Yd} (h : Tick B19 2 Y19 j Y s) (hi : ∀ k, k < 2 → Y.ts[k]? = some none) : s = 4 := by
 have h7 : ∀ a, a ∈ (lookF B19 2 (fun _ => 0) Y19 7).1.ts → a = none := fun a ha => by
  have e : (lookF B19 2 (fun _ => 0) Y19 7).1.ts = [none, none] := rfl
  rw [e] at ha
  simpa using ha
 have hst := zDa h7
 have hl := h.look (z := fun _ => 0) (fun j T i z' hk _ => by
  rcases Nat.lt_or_ge j 7 with hj | hj
  ·rcases zHi j (by omega) with ⟨k, q, e⟩ | ⟨e, _⟩
   ·rw [e] at hk
    rcases (show j % 2 = 0 ∨ j % 2 = 1 by omega) with e2 | e2
    ·have hk' : [some (Wk.pu k, q), none][j % 2]? = some (some (T, i)) := hk
     rw [e2] at hk'
     cases hk'
     rfl
    ·have hk' : [some (Wk.pu k, q), none][j % 2]? = some (some (T, i)) := hk
     rw [e2] at hk'
     cases hk'
   ·omega
  ·obtain ⟨k, rfl⟩ : ∃ k, j = 7 + k := ⟨j - 7, by omega⟩
   rw [hst] at hk
   have := h7 _ (List.mem_of_getElem? hk)
   cases this)
 rcases Nat.lt_or_ge j 7 with hj | hj
 ·rcases zHi j (by omega) with ⟨k, q, e⟩ | ⟨e, _⟩
  ·rw [hl] at e
   have := hi 0 (by decide)
   have e' : Y.ts = _ := e
   rw [e'] at this
   cases this
  ·omega
 ·obtain ⟨k, rfl⟩ : ∃ k, j = 7 + k := ⟨j - 7, by omega⟩
  rw [hst] at hl
  have e := congrArg Prod.snd hl
  exact e.symm.trans rfl
theorem zIR {B : YB} {N : Nat} {Y Y' : Yd} {k : Nat} {e x a : Int} (h : PDo B N ⟨0, k, 0, e, x, 0, 0⟩ Y Y' a) (hk : (k : Int) < B.t) (he : e = 0 ∨ e = 1) (hq : Y.ts[k]? = some Option.none) : a = 0 ∧ Y' = Y.call k 0 e x 0 (wkB B N k false e x 0) := by
 have ha : CM.asks ⟨0, k, 0, e, x, 0, 0⟩ := ⟨.inl rfl, he⟩
 cases h with
 | out h hw =>
  rcases hw with hw | hw | hw
  ·have hw' : (k : Int) < 0 := hw
   omega
  ·have hw' : B.t ≤ (k : Int) := hw
   omega
  ·exact absurd ha hw
 | busy k' a' h hw ha' hb =>
  have hw' : (k : Int) = k' := hw
  obtain rfl : k = k' := by omega
  rw [hq] at hb
  cases hb
 | call k' take h hw hk' he' hq' =>
  have hw' : (k : Int) = k' := hw
  obtain rfl : k = k' := by omega
  cases take with
  | false => exact ⟨rfl, rfl⟩
  | true => exact absurd (show (1 : Int) = 0 from hk') (by decide)
 | none h => exact absurd (show (0 : Int) = 1 from h) (by decide)
 | step k' T i z h => exact absurd h (by show ¬ (0 : Int) = 1; decide)
 | pass h => exact absurd h (by show ¬ (0 : Int) = 2; decide)
 | still h => exact absurd h (by show ¬ (0 : Int) = 2; decide)
 | other h0 => exact absurd rfl h0
theorem y19_of {yb ytb p c : Nat} {Yf : Nat → Yd} {An : List Int} (h : PTr ⟨yb, ytb, p, c, (2 : Nat), 1, 0, 0, 2⟩ 2 [⟨0, 0, 0, 0, 7, 0, 0⟩] Yf An) : Yf 1 = Y19 := by
 obtain ⟨a, ha⟩ : ∃ a, An[0]? = some a := ⟨_, List.getElem?_eq_getElem (by rw [h.len]; decide)⟩
 have h1 := h.at' 0 _ a rfl ha
 have hz : Yf 0 = yd0 2 2 := h.tr.zero
 rw [hz] at h1
 have h2 := (zIR (k := 0) (e := 0) (x := 7) h1 (by show (0 : Int) < (2 : Nat); decide) (.inl rfl) rfl).2
 exact h2
theorem lay212 : Lay ((2 : Nat) : Int) 1 ((2 : Nat) : Int) := ⟨by decide, by decide, by decide, by decide, by decide, by decide, by decide, by decide⟩
theorem zBF (w : World) : Calls Tryz.prog 9 #[] w fun r w' => r = .returned (.bool true) ∧ Below w.heap.size w w' := by
 have hI := (zGv w ⟨0, 0, 0, 0, 7, 0, 0⟩).later (zAA (Below.refl _ _) (.cells #[.int .i64 2, .int .i64 1, .int .i64 0, .int .i64 0, .slice (some ⟨w.heap.size, 0, none⟩) 1 1] 29))
 have HI := zIW hI
 have HB := zIW (zAA (zAA (Below.refl w.heap.size w) ((⟨0, 0, 0, 0, 7, 0, 0⟩ : CM).obj 39)) (.cells #[.int .i64 2, .int .i64 1, .int .i64 0, .int .i64 0, .slice (some ⟨w.heap.size, 0, none⟩) 1 1] 29))
 clear hI
 go_enter Tryz.func9, Tryz.ntmps9
 go_wp2_with fail
 refine (zDF 2 1 0 0 2 (some ⟨w.heap.size, 0, none⟩) 1 [⟨0, 0, 0, 0, 7, 0, 0⟩] _ HI.out (fun m hm => by rw [List.mem_singleton.1 hm]; exact ⟨by decide, by decide⟩) (by decide) lay212 (by decide) (by decide) (by decide) (by decide)).mono ?_
 rintro r w2 ⟨W, l, yb, ytb, p, c, Yf, An, J, g, rfl, hb, hP⟩
 have HBW := zIW (zAD HB.out hb)
 have HP := zIW hP
 clear hb hP HB HI
 simp only [List.length_cons, List.length_nil]
 go_wp2_with fail
 refine (zG6 (n := 1) HP.out.yd HP.out.tr.tr (by decide) (by show 2 ≤ 4; decide) (by decide) (by show (1 : Int) ≤ 4; decide) (by show (0 : Int) ≤ 3; decide)).mono ?_
 rintro r w3 ⟨s, j, l', Y', J', Yg, rfl, hF⟩
 have hs : s = 4 := fin19 (j := j) (Y := Y') (by have h := hF.tick.like (B' := B19) ⟨rfl, rfl, rfl, rfl, rfl⟩; rw [y19_of HP.out.tr] at h; exact h) (fun k hk => hF.idle k hk)
 subst hs
 have HF := zIW hF
 clear hF HP
 go_wp2_with fail
 refine (HF.out.yd.busy 0 false ⟨none, HF.out.idle 0 (by show 0 < 2; decide), rfl⟩).mono ?_
 rintro r w4 ⟨rfl, rfl⟩
 have HZ := zIW (zAD HBW.out HF.out.yd.h.below)
 go_wp2_with fail
 go_ret
 exact ⟨rfl, HZ.out⟩
end
section
open Go.RowKit
theorem and_63 (a : Int) : bits .and .i64 a 63 = a % 64 := by rw [show (63 : Int) = ((63 : Nat) : Int) from rfl, zBP a 63 6 rfl (by decide)]; rfl
theorem zHo (a : Int) : bits .and .i64 a 255 = a % 256 := by rw [show (255 : Int) = ((255 : Nat) : Int) from rfl, zBP a 255 8 rfl (by decide)]; rfl
theorem zHG (a : Int) : bits .and .i64 a 32767 = a % 32768 := by rw [show (32767 : Int) = ((32767 : Nat) : Int) from rfl, zBP a 32767 15 rfl (by decide)]; rfl
theorem and_31 (a : Int) : bits .and .i64 a 31 = a % 32 := by rw [show (31 : Int) = ((31 : Nat) : Int) from rfl, zBP a 31 5 rfl (by decide)]; rfl
end
section
open Go.RowKit
structure LM where
 kind : Int
 who : Int
 n : Int
 start : Int
 take : Bool
 right : Bool
 value : Int
 odd : Int
abbrev LM.val (v : LM) : Value := .agg #[.int .i64 v.kind, .int .i64 v.who, .int .i64 v.n, .int .i64 v.start, .bool v.take, .bool v.right, .int .u64 v.value, .int .i64 v.odd]
abbrev LM.obj (v : LM) (T : TypeId) : Obj := .cells #[.int .i64 v.kind, .int .i64 v.who, .int .i64 v.n, .int .i64 v.start, .bool v.take, .bool v.right, .int .u64 v.value, .int .i64 v.odd] T
def LM.list (v : LM) : List Value := [.int .i64 v.kind, .int .i64 v.who, .int .i64 v.n, .int .i64 v.start, .bool v.take, .bool v.right, .int .u64 v.value, .int .i64 v.odd]
def LM.k (v : LM) : Int := IntKind.u64.wrap v.kind % 3
def LM.base (v : LM) : CM :=
 if v.k = 0 then (if v.take then ⟨0, v.who % 64, 1, if v.right then 1 else 0, 0, v.start % 256, 0⟩ else ⟨0, v.who % 64, 0, if v.right then 1 else 0, v.value, 0, 0⟩)
 else if v.k = 2 then ⟨2, 0, 0, 0, 0, 0, 1 + v.n % 32768⟩ else ⟨1, v.who % 64, 0, 0, 0, 0, 0⟩
def LM.turn (v : LM) (m : CM) : CM :=
 if v.odd % 32 = 1 then { m with k := v.kind } else if v.odd % 32 = 2 then { m with who := v.who } else if v.odd % 32 = 3 then { m with n := v.n } else if v.odd % 32 = 4 then { m with st := v.start } else if v.odd % 32 = 5 then { m with v := v.value }
 else if v.odd % 32 = 6 then { m with ck := v.n } else if v.odd % 32 = 7 then { m with ce := v.n } else m
def LM.make (v : LM) : CM := v.turn v.base
theorem LM.k_cases (v : LM) : v.k = 0 ∨ v.k = 1 ∨ v.k = 2 := by unfold LM.k; omega
structure MkBx (w wx : World) (v : LM) : Prop where
 below : Below w.heap.size w wx
 arg : IsObj wx w.heap.size v.list
 res : IsObj wx (w.heap.size + 1) [.int .i64 0, .int .i64 0, .int .i64 0, .int .i64 0, .int .u64 0, .int .i64 0, .int .i64 0]
theorem MkBx.set {w wx : World} {v : LM} (h : MkBx w wx v) (j : Nat) (u : Value) : MkBx w (wx.setCell ⟨w.heap.size + 1 + 1, j, none⟩ u) v :=
 ⟨zAF h.below (by show w.heap.size ≤ w.heap.size + 1 + 1; omega) u, h.arg.other j u (by omega), h.res.other j u (by omega)⟩
structure MkAt (w wx : World) (v : LM) (m : CM) : Prop where
 bx : MkBx w wx v
 obj : IsObj wx (w.heap.size + 1 + 1) [.int .i64 m.k, .int .i64 m.who, .int .i64 m.ck, .int .i64 m.ce, .int .u64 m.v, .int .i64 m.st, .int .i64 m.n]
theorem zBj (v : LM) (w : World) : Calls Tryz.prog 10 #[v.val] w fun r w' => r = .returned v.make.val ∧ Below w.heap.size w w' := by
 have hb : (v.k = 0 ∧ v.take = false ∧ v.base = ⟨0, v.who % 64, 0, if v.right then 1 else 0, v.value, 0, 0⟩) ∨ (v.k = 0 ∧ v.take = true ∧ v.base = ⟨0, v.who % 64, 1, if v.right then 1 else 0, 0, v.start % 256, 0⟩) ∨ (v.k = 1 ∧ v.base = ⟨1, v.who % 64, 0, 0, 0, 0, 0⟩) ∨ (v.k = 2 ∧ v.base = ⟨2, 0, 0, 0, 0, 0, 1 + v.n % 32768⟩) := by
  rcases v.k_cases with h | h | h
  ·cases ht : v.take
   ·exact .inl ⟨h, rfl, by unfold LM.base; rw [if_pos h, ht]; rfl⟩
   ·exact .inr (.inl ⟨h, rfl, by unfold LM.base; rw [if_pos h, ht]; rfl⟩)
  ·exact .inr (.inr (.inl ⟨h, by unfold LM.base; rw [if_neg (by omega), if_neg (by omega)]⟩))
  ·exact .inr (.inr (.inr ⟨h, by unfold LM.base; rw [if_neg (by omega), if_pos h]⟩))
 have ho : (v.odd % 32 = 1 ∧ v.make = { v.base with k := v.kind }) ∨ (v.odd % 32 = 2 ∧ v.make = { v.base with who := v.who }) ∨ (v.odd % 32 = 3 ∧ v.make = { v.base with n := v.n }) ∨ (v.odd % 32 = 4 ∧ v.make = { v.base with st := v.start }) ∨ (v.odd % 32 = 5 ∧ v.make = { v.base with v := v.value }) ∨ (v.odd % 32 = 6 ∧ v.make = { v.base with ck := v.n }) ∨ (v.odd % 32 = 7 ∧ v.make = { v.base with ce := v.n }) ∨ ((v.odd % 32 = 0 ∨ 8 ≤ v.odd % 32) ∧ v.make = v.base) := by
  unfold LM.make LM.turn
  by_cases h1 : v.odd % 32 = 1
  ·exact .inl ⟨h1, by rw [if_pos h1]⟩
  rw [if_neg h1]
  by_cases h2 : v.odd % 32 = 2
  ·exact .inr (.inl ⟨h2, by rw [if_pos h2]⟩)
  rw [if_neg h2]
  by_cases h3 : v.odd % 32 = 3
  ·exact .inr (.inr (.inl ⟨h3, by rw [if_pos h3]⟩))
  rw [if_neg h3]
  by_cases h4 : v.odd % 32 = 4
  ·exact .inr (.inr (.inr (.inl ⟨h4, by rw [if_pos h4]⟩)))
  rw [if_neg h4]
  by_cases h5 : v.odd % 32 = 5
  ·exact .inr (.inr (.inr (.inr (.inl ⟨h5, by rw [if_pos h5]⟩))))
  rw [if_neg h5]
  by_cases h6 : v.odd % 32 = 6
  ·exact .inr (.inr (.inr (.inr (.inr (.inl ⟨h6, by rw [if_pos h6]⟩)))))
  rw [if_neg h6]
  by_cases h7 : v.odd % 32 = 7
  ·exact .inr (.inr (.inr (.inr (.inr (.inr (.inl ⟨h7, by rw [if_pos h7]⟩))))))
  rw [if_neg h7]
  exact .inr (.inr (.inr (.inr (.inr (.inr (.inr ⟨by omega, rfl⟩))))))
 unfold LM.val
 generalize v.make = M at ho ⊢
 generalize v.base = b0 at hb ho
 unfold LM.k at hb
 obtain ⟨kind, who, n, start, take, right, value, odd⟩ := v
 simp only at hb ho ⊢
 obtain ⟨q, hq⟩ : ∃ q, IntKind.u64.wrap kind % 3 = q := ⟨_, rfl⟩
 have hq1 : (IntKind.u64.wrap kind).tmod 3 = q := by rw [Int.tmod_eq_emod_of_nonneg (by rw [IntKind.wrap_u64]; omega)]; exact hq
 have hq3 : IntKind.i64.wrap q = q := by rw [← hq]; exact IntWalk.i64_in _ (by omega)
 rw [hq] at hb
 clear hq
 have a63 : bits .and .i64 who 63 = who % 64 := and_63 who
 have a255 : bits .and .i64 start 255 = start % 256 := zHo start
 have a7fff : bits .and .i64 n 32767 = n % 32768 := zHG n
 have a31 : bits .and .i64 odd 31 = odd % 32 := and_31 odd
 have HBs := zIW hb
 have HOd := zIW ho
 clear hb ho
 have HB3 := zIW (zAA (zAA (zAA (Below.refl w.heap.size w) ((⟨kind, who, n, start, take, right, value, odd⟩ : LM).obj 32)) (.cells #[.int .i64 0, .int .i64 0, .int .i64 0, .int .i64 0, .int .u64 0, .int .i64 0, .int .i64 0] 39)) (.cells #[.int .i64 q, .int .i64 (who % 64), .int .i64 0, .int .i64 0, .int .u64 0, .int .i64 0, .int .i64 0] 39))
 go_enter Tryz.func10, Tryz.ntmps10
 go_upto_block 0 with fail
 have h3 := IsObj.made ((w.alloc ((⟨kind, who, n, start, take, right, value, odd⟩ : LM).obj 32)).alloc (.cells #[.int .i64 0, .int .i64 0, .int .i64 0, .int .i64 0, .int .u64 0, .int .i64 0, .int .i64 0] 39)) [.int .i64 q, .int .i64 (who % 64), .int .i64 0, .int .i64 0, .int .u64 0, .int .i64 0, .int .i64 0] 39
 have h2 := (IsObj.made (w.alloc ((⟨kind, who, n, start, take, right, value, odd⟩ : LM).obj 32)) [.int .i64 0, .int .i64 0, .int .i64 0, .int .i64 0, .int .u64 0, .int .i64 0, .int .i64 0] 39).later (zAA (Below.refl _ _) (.cells #[.int .i64 q, .int .i64 (who % 64), .int .i64 0, .int .i64 0, .int .u64 0, .int .i64 0, .int .i64 0] 39))
 have h1 := ((IsObj.made w [.int .i64 kind, .int .i64 who, .int .i64 n, .int .i64 start, .bool take, .bool right, .int .u64 value, .int .i64 odd] 32).later (zAA (Below.refl _ _) (.cells #[.int .i64 0, .int .i64 0, .int .i64 0, .int .i64 0, .int .u64 0, .int .i64 0, .int .i64 0] 39))).later (zAA (Below.refl _ _) (.cells #[.int .i64 q, .int .i64 (who % 64), .int .i64 0, .int .i64 0, .int .u64 0, .int .i64 0, .int .i64 0] 39))
 simp only [World.size_alloc] at h3 h2
 have H1 := zIW h1
 have H2 := zIW h2
 have H3 := zIW h3
 clear h1 h2 h3
 generalize (((w.alloc (.cells #[.int .i64 kind, .int .i64 who, .int .i64 n, .int .i64 start, .bool take, .bool right, .int .u64 value, .int .i64 odd] 32)).alloc (.cells #[.int .i64 0, .int .i64 0, .int .i64 0, .int .i64 0, .int .u64 0, .int .i64 0, .int .i64 0] 39)).alloc (.cells #[.int .i64 q, .int .i64 (who % 64), .int .i64 0, .int .i64 0, .int .u64 0, .int .i64 0, .int .i64 0] 39)) = w3 at H1 H2 H3 HB3 ⊢
 go_cut [] (fun wx => Hid (MkAt w wx ⟨kind, who, n, start, take, right, value, odd⟩ b0))
 case first =>
  have q0 := H3.out.at' 0 _ rfl
  have q1 := H3.out.at' 1 _ rfl
  have q2 := H3.out.at' 2 _ rfl
  have q3 := H3.out.at' 3 _ rfl
  have q4 := H3.out.at' 4 _ rfl
  have q5 := H3.out.at' 5 _ rfl
  have q6 := H3.out.at' 6 _ rfl
  have f0 := H3.out.fz 0
  have f1 := H3.out.fz 1
  have f2 := H3.out.fz 2
  have f3 := H3.out.fz 3
  have f4 := H3.out.fz 4
  have f5 := H3.out.fz 5
  have f6 := H3.out.fz 6
  have x2 := H1.out.at' 2 _ rfl
  have x3 := H1.out.at' 3 _ rfl
  have x4 := H1.out.at' 4 _ rfl
  have x5 := H1.out.at' 5 _ rfl
  have x6 := H1.out.at' 6 _ rfl
  have hl3 := H3.out.lt
  have hd : ∀ (j : Nat) (u : Value) (wx : World), MkBx w wx ⟨kind, who, n, start, take, right, value, odd⟩ → MkBx w (wx.setCell ⟨w.heap.size + 1 + 1, j, none⟩ u) ⟨kind, who, n, start, take, right, value, odd⟩ := fun j u wx h => h.set j u
  have HD := zIW hd
  have HX := zIW (show MkBx w w3 ⟨kind, who, n, start, take, right, value, odd⟩ from ⟨HB3.out, H1.out, H2.out⟩)
  clear hd
  rcases HBs.out with ⟨rfl, rfl, rfl⟩ | ⟨rfl, rfl, rfl⟩ | ⟨rfl, rfl⟩ | ⟨rfl, rfl⟩
  ·cases right
   ·go_wp2_with fail
    go_meet
    exact zIW ⟨HD.out _ _ _ HX.out, H3.out.set 4 _⟩
   ·go_wp2_with fail
    go_meet
    exact zIW ⟨HD.out _ _ _ (HD.out _ _ _ HX.out), (H3.out.set 4 _).set 3 _⟩
  ·cases right
   ·go_wp2_with fail
    go_meet
    exact zIW ⟨(HD.out _ _ _ (HD.out _ _ _ (HD.out _ _ _ (HD.out _ _ _ (HD.out _ _ _ HX.out))))), (((((H3.out.set 4 _).set 2 _).set 3 _).set 4 _).set 5 _)⟩
   ·go_wp2_with fail
    go_meet
    exact zIW ⟨HD.out _ _ _ (HD.out _ _ _ (HD.out _ _ _ (HD.out _ _ _ (HD.out _ _ _ (HD.out _ _ _ HX.out))))), (((((H3.out.set 4 _).set 2 _).set 3 _).set 4 _).set 5 _).set 3 _⟩
  ·go_wp2_with fail
   go_meet
   exact zIW ⟨HX.out, H3.out⟩
  ·have hwn : IntKind.i64.wrap (1 + n % 32768) = 1 + n % 32768 := IntWalk.i64_in _ (by omega)
   go_wp2_with fail
   go_meet
   exact zIW ⟨HD.out _ _ _ (HD.out _ _ _ HX.out), (H3.out.set 1 _).set 6 _⟩
 case rest =>
  clear H1 H2 H3 HB3 HBs
  have HM := hcut
  clear hcut
  have q0 := HM.out.obj.at' 0 _ rfl
  have q1 := HM.out.obj.at' 1 _ rfl
  have q2 := HM.out.obj.at' 2 _ rfl
  have q3 := HM.out.obj.at' 3 _ rfl
  have q4 := HM.out.obj.at' 4 _ rfl
  have q5 := HM.out.obj.at' 5 _ rfl
  have q6 := HM.out.obj.at' 6 _ rfl
  have f0 := HM.out.obj.fz 0
  have f1 := HM.out.obj.fz 1
  have f2 := HM.out.obj.fz 2
  have f3 := HM.out.obj.fz 3
  have f4 := HM.out.obj.fz 4
  have f5 := HM.out.obj.fz 5
  have f6 := HM.out.obj.fz 6
  have x0 := HM.out.bx.arg.at' 0 _ rfl
  have x1 := HM.out.bx.arg.at' 1 _ rfl
  have x2 := HM.out.bx.arg.at' 2 _ rfl
  have x3 := HM.out.bx.arg.at' 3 _ rfl
  have x6 := HM.out.bx.arg.at' 6 _ rfl
  have x7 := HM.out.bx.arg.at' 7 _ rfl
  have r0 := HM.out.bx.res.at' 0 _ rfl
  have r1 := HM.out.bx.res.at' 1 _ rfl
  have r2 := HM.out.bx.res.at' 2 _ rfl
  have r3 := HM.out.bx.res.at' 3 _ rfl
  have r4 := HM.out.bx.res.at' 4 _ rfl
  have r5 := HM.out.bx.res.at' 5 _ rfl
  have r6 := HM.out.bx.res.at' 6 _ rfl
  have g0 := HM.out.bx.res.fz 0
  have g1 := HM.out.bx.res.fz 1
  have g2 := HM.out.bx.res.fz 2
  have g3 := HM.out.bx.res.fz 3
  have g4 := HM.out.bx.res.fz 4
  have g5 := HM.out.bx.res.fz 5
  have g6 := HM.out.bx.res.fz 6
  rcases HOd.out with ⟨ho, rfl⟩ | ⟨ho, rfl⟩ | ⟨ho, rfl⟩ | ⟨ho, rfl⟩ | ⟨ho, rfl⟩ | ⟨ho, rfl⟩ | ⟨ho, rfl⟩ | ⟨ho, rfl⟩
  ·rw [ho] at a31
   go_wp2_with fail
   have hM2 : MkAt w (wc.setCell ⟨w.heap.size + 1 + 1, 0, none⟩ (i64 kind)) ⟨kind, who, n, start, take, right, value, odd⟩ { b0 with k := kind } := ⟨HM.out.bx.set 0 _, HM.out.obj.set 0 (i64 kind)⟩
   generalize wc.setCell ⟨w.heap.size + 1 + 1, 0, none⟩ (i64 kind) = w5 at hM2 ⊢
   have hb9 := (zAF (p := ⟨w.heap.size + 1, 6, none⟩) (zAF (p := ⟨w.heap.size + 1, 5, none⟩) (zAF (p := ⟨w.heap.size + 1, 4, none⟩) (zAF (p := ⟨w.heap.size + 1, 3, none⟩) (zAF (p := ⟨w.heap.size + 1, 2, none⟩) (zAF (p := ⟨w.heap.size + 1, 1, none⟩) (zAF (p := ⟨w.heap.size + 1, 0, none⟩) hM2.bx.below (Nat.le_succ _) (i64 kind)) (Nat.le_succ _) (i64 b0.who)) (Nat.le_succ _) (i64 b0.ck)) (Nat.le_succ _) (i64 b0.ce)) (Nat.le_succ _) (u64 b0.v)) (Nat.le_succ _) (i64 b0.st)) (Nat.le_succ _) (i64 b0.n))
   have ho9 := (((((((hM2.bx.res.set 0 (i64 kind)).set 1 (i64 b0.who)).set 2 (i64 b0.ck)).set 3 (i64 b0.ce)).set 4 (u64 b0.v)).set 5 (i64 b0.st)).set 6 (i64 b0.n))
   generalize (((((((w5.setCell ⟨w.heap.size + 1, 0, none⟩ (i64 kind)).setCell ⟨w.heap.size + 1, 1, none⟩ (i64 b0.who)).setCell ⟨w.heap.size + 1, 2, none⟩ (i64 b0.ck)).setCell ⟨w.heap.size + 1, 3, none⟩ (i64 b0.ce)).setCell ⟨w.heap.size + 1, 4, none⟩ (u64 b0.v)).setCell ⟨w.heap.size + 1, 5, none⟩ (i64 b0.st)).setCell ⟨w.heap.size + 1, 6, none⟩ (i64 b0.n)) = w9 at hb9 ho9 ⊢
   have z0 := ho9.at' 0 _ rfl
   have z1 := ho9.at' 1 _ rfl
   have z2 := ho9.at' 2 _ rfl
   have z3 := ho9.at' 3 _ rfl
   have z4 := ho9.at' 4 _ rfl
   have z5 := ho9.at' 5 _ rfl
   have z6 := ho9.at' 6 _ rfl
   exact bodyPost_ret (v := (⟨kind, b0.who, b0.ck, b0.ce, b0.v, b0.st, b0.n⟩ : CM).val) (by simp [results, Tryz.results10, go_sem, z0, z1, z2, z3, z4, z5, z6]) rfl ⟨rfl, hb9⟩
  ·rw [ho] at a31
   go_wp2_with fail
   have hM2 : MkAt w (wc.setCell ⟨w.heap.size + 1 + 1, 1, none⟩ (i64 who)) ⟨kind, who, n, start, take, right, value, odd⟩ { b0 with who := who } := ⟨HM.out.bx.set 1 _, HM.out.obj.set 1 (i64 who)⟩
   generalize wc.setCell ⟨w.heap.size + 1 + 1, 1, none⟩ (i64 who) = w5 at hM2 ⊢
   have hb9 := (zAF (p := ⟨w.heap.size + 1, 6, none⟩) (zAF (p := ⟨w.heap.size + 1, 5, none⟩) (zAF (p := ⟨w.heap.size + 1, 4, none⟩) (zAF (p := ⟨w.heap.size + 1, 3, none⟩) (zAF (p := ⟨w.heap.size + 1, 2, none⟩) (zAF (p := ⟨w.heap.size + 1, 1, none⟩) (zAF (p := ⟨w.heap.size + 1, 0, none⟩) hM2.bx.below (Nat.le_succ _) (i64 b0.k)) (Nat.le_succ _) (i64 who)) (Nat.le_succ _) (i64 b0.ck)) (Nat.le_succ _) (i64 b0.ce)) (Nat.le_succ _) (u64 b0.v)) (Nat.le_succ _) (i64 b0.st)) (Nat.le_succ _) (i64 b0.n))
   have ho9 := (((((((hM2.bx.res.set 0 (i64 b0.k)).set 1 (i64 who)).set 2 (i64 b0.ck)).set 3 (i64 b0.ce)).set 4 (u64 b0.v)).set 5 (i64 b0.st)).set 6 (i64 b0.n))
   generalize (((((((w5.setCell ⟨w.heap.size + 1, 0, none⟩ (i64 b0.k)).setCell ⟨w.heap.size + 1, 1, none⟩ (i64 who)).setCell ⟨w.heap.size + 1, 2, none⟩ (i64 b0.ck)).setCell ⟨w.heap.size + 1, 3, none⟩ (i64 b0.ce)).setCell ⟨w.heap.size + 1, 4, none⟩ (u64 b0.v)).setCell ⟨w.heap.size + 1, 5, none⟩ (i64 b0.st)).setCell ⟨w.heap.size + 1, 6, none⟩ (i64 b0.n)) = w9 at hb9 ho9 ⊢
   have z0 := ho9.at' 0 _ rfl
   have z1 := ho9.at' 1 _ rfl
   have z2 := ho9.at' 2 _ rfl
   have z3 := ho9.at' 3 _ rfl
   have z4 := ho9.at' 4 _ rfl
   have z5 := ho9.at' 5 _ rfl
   have z6 := ho9.at' 6 _ rfl
   exact bodyPost_ret (v := (⟨b0.k, who, b0.ck, b0.ce, b0.v, b0.st, b0.n⟩ : CM).val) (by simp [results, Tryz.results10, go_sem, z0, z1, z2, z3, z4, z5, z6]) rfl ⟨rfl, hb9⟩
  ·rw [ho] at a31
   go_wp2_with fail
   have hM2 : MkAt w (wc.setCell ⟨w.heap.size + 1 + 1, 6, none⟩ (i64 n)) ⟨kind, who, n, start, take, right, value, odd⟩ { b0 with n := n } := ⟨HM.out.bx.set 6 _, HM.out.obj.set 6 (i64 n)⟩
   generalize wc.setCell ⟨w.heap.size + 1 + 1, 6, none⟩ (i64 n) = w5 at hM2 ⊢
   have hb9 := (zAF (p := ⟨w.heap.size + 1, 6, none⟩) (zAF (p := ⟨w.heap.size + 1, 5, none⟩) (zAF (p := ⟨w.heap.size + 1, 4, none⟩) (zAF (p := ⟨w.heap.size + 1, 3, none⟩) (zAF (p := ⟨w.heap.size + 1, 2, none⟩) (zAF (p := ⟨w.heap.size + 1, 1, none⟩) (zAF (p := ⟨w.heap.size + 1, 0, none⟩) hM2.bx.below (Nat.le_succ _) (i64 b0.k)) (Nat.le_succ _) (i64 b0.who)) (Nat.le_succ _) (i64 b0.ck)) (Nat.le_succ _) (i64 b0.ce)) (Nat.le_succ _) (u64 b0.v)) (Nat.le_succ _) (i64 b0.st)) (Nat.le_succ _) (i64 n))
   have ho9 := (((((((hM2.bx.res.set 0 (i64 b0.k)).set 1 (i64 b0.who)).set 2 (i64 b0.ck)).set 3 (i64 b0.ce)).set 4 (u64 b0.v)).set 5 (i64 b0.st)).set 6 (i64 n))
   generalize (((((((w5.setCell ⟨w.heap.size + 1, 0, none⟩ (i64 b0.k)).setCell ⟨w.heap.size + 1, 1, none⟩ (i64 b0.who)).setCell ⟨w.heap.size + 1, 2, none⟩ (i64 b0.ck)).setCell ⟨w.heap.size + 1, 3, none⟩ (i64 b0.ce)).setCell ⟨w.heap.size + 1, 4, none⟩ (u64 b0.v)).setCell ⟨w.heap.size + 1, 5, none⟩ (i64 b0.st)).setCell ⟨w.heap.size + 1, 6, none⟩ (i64 n)) = w9 at hb9 ho9 ⊢
   have z0 := ho9.at' 0 _ rfl
   have z1 := ho9.at' 1 _ rfl
   have z2 := ho9.at' 2 _ rfl
   have z3 := ho9.at' 3 _ rfl
   have z4 := ho9.at' 4 _ rfl
   have z5 := ho9.at' 5 _ rfl
   have z6 := ho9.at' 6 _ rfl
   exact bodyPost_ret (v := (⟨b0.k, b0.who, b0.ck, b0.ce, b0.v, b0.st, n⟩ : CM).val) (by simp [results, Tryz.results10, go_sem, z0, z1, z2, z3, z4, z5, z6]) rfl ⟨rfl, hb9⟩
  ·rw [ho] at a31
   go_wp2_with fail
   have hM2 : MkAt w (wc.setCell ⟨w.heap.size + 1 + 1, 5, none⟩ (i64 start)) ⟨kind, who, n, start, take, right, value, odd⟩ { b0 with st := start } := ⟨HM.out.bx.set 5 _, HM.out.obj.set 5 (i64 start)⟩
   generalize wc.setCell ⟨w.heap.size + 1 + 1, 5, none⟩ (i64 start) = w5 at hM2 ⊢
   have hb9 := (zAF (p := ⟨w.heap.size + 1, 6, none⟩) (zAF (p := ⟨w.heap.size + 1, 5, none⟩) (zAF (p := ⟨w.heap.size + 1, 4, none⟩) (zAF (p := ⟨w.heap.size + 1, 3, none⟩) (zAF (p := ⟨w.heap.size + 1, 2, none⟩) (zAF (p := ⟨w.heap.size + 1, 1, none⟩) (zAF (p := ⟨w.heap.size + 1, 0, none⟩) hM2.bx.below (Nat.le_succ _) (i64 b0.k)) (Nat.le_succ _) (i64 b0.who)) (Nat.le_succ _) (i64 b0.ck)) (Nat.le_succ _) (i64 b0.ce)) (Nat.le_succ _) (u64 b0.v)) (Nat.le_succ _) (i64 start)) (Nat.le_succ _) (i64 b0.n))
   have ho9 := (((((((hM2.bx.res.set 0 (i64 b0.k)).set 1 (i64 b0.who)).set 2 (i64 b0.ck)).set 3 (i64 b0.ce)).set 4 (u64 b0.v)).set 5 (i64 start)).set 6 (i64 b0.n))
   generalize (((((((w5.setCell ⟨w.heap.size + 1, 0, none⟩ (i64 b0.k)).setCell ⟨w.heap.size + 1, 1, none⟩ (i64 b0.who)).setCell ⟨w.heap.size + 1, 2, none⟩ (i64 b0.ck)).setCell ⟨w.heap.size + 1, 3, none⟩ (i64 b0.ce)).setCell ⟨w.heap.size + 1, 4, none⟩ (u64 b0.v)).setCell ⟨w.heap.size + 1, 5, none⟩ (i64 start)).setCell ⟨w.heap.size + 1, 6, none⟩ (i64 b0.n)) = w9 at hb9 ho9 ⊢
   have z0 := ho9.at' 0 _ rfl
   have z1 := ho9.at' 1 _ rfl
   have z2 := ho9.at' 2 _ rfl
   have z3 := ho9.at' 3 _ rfl
   have z4 := ho9.at' 4 _ rfl
   have z5 := ho9.at' 5 _ rfl
   have z6 := ho9.at' 6 _ rfl
   exact bodyPost_ret (v := (⟨b0.k, b0.who, b0.ck, b0.ce, b0.v, start, b0.n⟩ : CM).val) (by simp [results, Tryz.results10, go_sem, z0, z1, z2, z3, z4, z5, z6]) rfl ⟨rfl, hb9⟩
  ·rw [ho] at a31
   go_wp2_with fail
   have hM2 : MkAt w (wc.setCell ⟨w.heap.size + 1 + 1, 4, none⟩ (u64 value)) ⟨kind, who, n, start, take, right, value, odd⟩ { b0 with v := value } := ⟨HM.out.bx.set 4 _, HM.out.obj.set 4 (u64 value)⟩
   generalize wc.setCell ⟨w.heap.size + 1 + 1, 4, none⟩ (u64 value) = w5 at hM2 ⊢
   have hb9 := (zAF (p := ⟨w.heap.size + 1, 6, none⟩) (zAF (p := ⟨w.heap.size + 1, 5, none⟩) (zAF (p := ⟨w.heap.size + 1, 4, none⟩) (zAF (p := ⟨w.heap.size + 1, 3, none⟩) (zAF (p := ⟨w.heap.size + 1, 2, none⟩) (zAF (p := ⟨w.heap.size + 1, 1, none⟩) (zAF (p := ⟨w.heap.size + 1, 0, none⟩) hM2.bx.below (Nat.le_succ _) (i64 b0.k)) (Nat.le_succ _) (i64 b0.who)) (Nat.le_succ _) (i64 b0.ck)) (Nat.le_succ _) (i64 b0.ce)) (Nat.le_succ _) (u64 value)) (Nat.le_succ _) (i64 b0.st)) (Nat.le_succ _) (i64 b0.n))
   have ho9 := (((((((hM2.bx.res.set 0 (i64 b0.k)).set 1 (i64 b0.who)).set 2 (i64 b0.ck)).set 3 (i64 b0.ce)).set 4 (u64 value)).set 5 (i64 b0.st)).set 6 (i64 b0.n))
   generalize (((((((w5.setCell ⟨w.heap.size + 1, 0, none⟩ (i64 b0.k)).setCell ⟨w.heap.size + 1, 1, none⟩ (i64 b0.who)).setCell ⟨w.heap.size + 1, 2, none⟩ (i64 b0.ck)).setCell ⟨w.heap.size + 1, 3, none⟩ (i64 b0.ce)).setCell ⟨w.heap.size + 1, 4, none⟩ (u64 value)).setCell ⟨w.heap.size + 1, 5, none⟩ (i64 b0.st)).setCell ⟨w.heap.size + 1, 6, none⟩ (i64 b0.n)) = w9 at hb9 ho9 ⊢
   have z0 := ho9.at' 0 _ rfl
   have z1 := ho9.at' 1 _ rfl
   have z2 := ho9.at' 2 _ rfl
   have z3 := ho9.at' 3 _ rfl
   have z4 := ho9.at' 4 _ rfl
   have z5 := ho9.at' 5 _ rfl
   have z6 := ho9.at' 6 _ rfl
   exact bodyPost_ret (v := (⟨b0.k, b0.who, b0.ck, b0.ce, value, b0.st, b0.n⟩ : CM).val) (by simp [results, Tryz.results10, go_sem, z0, z1, z2, z3, z4, z5, z6]) rfl ⟨rfl, hb9⟩
  ·rw [ho] at a31
   go_wp2_with fail
   have hM2 : MkAt w (wc.setCell ⟨w.heap.size + 1 + 1, 2, none⟩ (i64 n)) ⟨kind, who, n, start, take, right, value, odd⟩ { b0 with ck := n } := ⟨HM.out.bx.set 2 _, HM.out.obj.set 2 (i64 n)⟩
   generalize wc.setCell ⟨w.heap.size + 1 + 1, 2, none⟩ (i64 n) = w5 at hM2 ⊢
   have hb9 := (zAF (p := ⟨w.heap.size + 1, 6, none⟩) (zAF (p := ⟨w.heap.size + 1, 5, none⟩) (zAF (p := ⟨w.heap.size + 1, 4, none⟩) (zAF (p := ⟨w.heap.size + 1, 3, none⟩) (zAF (p := ⟨w.heap.size + 1, 2, none⟩) (zAF (p := ⟨w.heap.size + 1, 1, none⟩) (zAF (p := ⟨w.heap.size + 1, 0, none⟩) hM2.bx.below (Nat.le_succ _) (i64 b0.k)) (Nat.le_succ _) (i64 b0.who)) (Nat.le_succ _) (i64 n)) (Nat.le_succ _) (i64 b0.ce)) (Nat.le_succ _) (u64 b0.v)) (Nat.le_succ _) (i64 b0.st)) (Nat.le_succ _) (i64 b0.n))
   have ho9 := (((((((hM2.bx.res.set 0 (i64 b0.k)).set 1 (i64 b0.who)).set 2 (i64 n)).set 3 (i64 b0.ce)).set 4 (u64 b0.v)).set 5 (i64 b0.st)).set 6 (i64 b0.n))
   generalize (((((((w5.setCell ⟨w.heap.size + 1, 0, none⟩ (i64 b0.k)).setCell ⟨w.heap.size + 1, 1, none⟩ (i64 b0.who)).setCell ⟨w.heap.size + 1, 2, none⟩ (i64 n)).setCell ⟨w.heap.size + 1, 3, none⟩ (i64 b0.ce)).setCell ⟨w.heap.size + 1, 4, none⟩ (u64 b0.v)).setCell ⟨w.heap.size + 1, 5, none⟩ (i64 b0.st)).setCell ⟨w.heap.size + 1, 6, none⟩ (i64 b0.n)) = w9 at hb9 ho9 ⊢
   have z0 := ho9.at' 0 _ rfl
   have z1 := ho9.at' 1 _ rfl
   have z2 := ho9.at' 2 _ rfl
   have z3 := ho9.at' 3 _ rfl
   have z4 := ho9.at' 4 _ rfl
   have z5 := ho9.at' 5 _ rfl
   have z6 := ho9.at' 6 _ rfl
   exact bodyPost_ret (v := (⟨b0.k, b0.who, n, b0.ce, b0.v, b0.st, b0.n⟩ : CM).val) (by simp [results, Tryz.results10, go_sem, z0, z1, z2, z3, z4, z5, z6]) rfl ⟨rfl, hb9⟩
  ·rw [ho] at a31
   go_wp2_with fail
   have hM2 : MkAt w (wc.setCell ⟨w.heap.size + 1 + 1, 3, none⟩ (i64 n)) ⟨kind, who, n, start, take, right, value, odd⟩ { b0 with ce := n } := ⟨HM.out.bx.set 3 _, HM.out.obj.set 3 (i64 n)⟩
   generalize wc.setCell ⟨w.heap.size + 1 + 1, 3, none⟩ (i64 n) = w5 at hM2 ⊢
   have hb9 := (zAF (p := ⟨w.heap.size + 1, 6, none⟩) (zAF (p := ⟨w.heap.size + 1, 5, none⟩) (zAF (p := ⟨w.heap.size + 1, 4, none⟩) (zAF (p := ⟨w.heap.size + 1, 3, none⟩) (zAF (p := ⟨w.heap.size + 1, 2, none⟩) (zAF (p := ⟨w.heap.size + 1, 1, none⟩) (zAF (p := ⟨w.heap.size + 1, 0, none⟩) hM2.bx.below (Nat.le_succ _) (i64 b0.k)) (Nat.le_succ _) (i64 b0.who)) (Nat.le_succ _) (i64 b0.ck)) (Nat.le_succ _) (i64 n)) (Nat.le_succ _) (u64 b0.v)) (Nat.le_succ _) (i64 b0.st)) (Nat.le_succ _) (i64 b0.n))
   have ho9 := (((((((hM2.bx.res.set 0 (i64 b0.k)).set 1 (i64 b0.who)).set 2 (i64 b0.ck)).set 3 (i64 n)).set 4 (u64 b0.v)).set 5 (i64 b0.st)).set 6 (i64 b0.n))
   generalize (((((((w5.setCell ⟨w.heap.size + 1, 0, none⟩ (i64 b0.k)).setCell ⟨w.heap.size + 1, 1, none⟩ (i64 b0.who)).setCell ⟨w.heap.size + 1, 2, none⟩ (i64 b0.ck)).setCell ⟨w.heap.size + 1, 3, none⟩ (i64 n)).setCell ⟨w.heap.size + 1, 4, none⟩ (u64 b0.v)).setCell ⟨w.heap.size + 1, 5, none⟩ (i64 b0.st)).setCell ⟨w.heap.size + 1, 6, none⟩ (i64 b0.n)) = w9 at hb9 ho9 ⊢
   have z0 := ho9.at' 0 _ rfl
   have z1 := ho9.at' 1 _ rfl
   have z2 := ho9.at' 2 _ rfl
   have z3 := ho9.at' 3 _ rfl
   have z4 := ho9.at' 4 _ rfl
   have z5 := ho9.at' 5 _ rfl
   have z6 := ho9.at' 6 _ rfl
   exact bodyPost_ret (v := (⟨b0.k, b0.who, b0.ck, n, b0.v, b0.st, b0.n⟩ : CM).val) (by simp [results, Tryz.results10, go_sem, z0, z1, z2, z3, z4, z5, z6]) rfl ⟨rfl, hb9⟩
  ·obtain ⟨q5, hq5⟩ : ∃ q5, odd % 32 = q5 := ⟨_, rfl⟩
   rw [hq5] at a31 ho
   have e1 : (q5 == 1) = false := beq_false_of_ne (by omega)
   have e2 : (q5 == 2) = false := beq_false_of_ne (by omega)
   have e3 : (q5 == 3) = false := beq_false_of_ne (by omega)
   have e4 : (q5 == 4) = false := beq_false_of_ne (by omega)
   have e5 : (q5 == 5) = false := beq_false_of_ne (by omega)
   have e6 : (q5 == 6) = false := beq_false_of_ne (by omega)
   have e7 : (q5 == 7) = false := beq_false_of_ne (by omega)
   clear ho hq5
   go_wp2_with fail
   have hM2 := HM.out
   have hb9 := (zAF (p := ⟨w.heap.size + 1, 6, none⟩) (zAF (p := ⟨w.heap.size + 1, 5, none⟩) (zAF (p := ⟨w.heap.size + 1, 4, none⟩) (zAF (p := ⟨w.heap.size + 1, 3, none⟩) (zAF (p := ⟨w.heap.size + 1, 2, none⟩) (zAF (p := ⟨w.heap.size + 1, 1, none⟩) (zAF (p := ⟨w.heap.size + 1, 0, none⟩) hM2.bx.below (Nat.le_succ _) (i64 M.k)) (Nat.le_succ _) (i64 M.who)) (Nat.le_succ _) (i64 M.ck)) (Nat.le_succ _) (i64 M.ce)) (Nat.le_succ _) (u64 M.v)) (Nat.le_succ _) (i64 M.st)) (Nat.le_succ _) (i64 M.n))
   have ho9 := (((((((hM2.bx.res.set 0 (i64 M.k)).set 1 (i64 M.who)).set 2 (i64 M.ck)).set 3 (i64 M.ce)).set 4 (u64 M.v)).set 5 (i64 M.st)).set 6 (i64 M.n))
   generalize (((((((wc.setCell ⟨w.heap.size + 1, 0, none⟩ (i64 M.k)).setCell ⟨w.heap.size + 1, 1, none⟩ (i64 M.who)).setCell ⟨w.heap.size + 1, 2, none⟩ (i64 M.ck)).setCell ⟨w.heap.size + 1, 3, none⟩ (i64 M.ce)).setCell ⟨w.heap.size + 1, 4, none⟩ (u64 M.v)).setCell ⟨w.heap.size + 1, 5, none⟩ (i64 M.st)).setCell ⟨w.heap.size + 1, 6, none⟩ (i64 M.n)) = w9 at hb9 ho9 ⊢
   have z0 := ho9.at' 0 _ rfl
   have z1 := ho9.at' 1 _ rfl
   have z2 := ho9.at' 2 _ rfl
   have z3 := ho9.at' 3 _ rfl
   have z4 := ho9.at' 4 _ rfl
   have z5 := ho9.at' 5 _ rfl
   have z6 := ho9.at' 6 _ rfl
   exact bodyPost_ret (v := M.val) (by simp [results, Tryz.results10, go_sem, z0, z1, z2, z3, z4, z5, z6]) rfl ⟨rfl, hb9⟩
end
section
open Go.RowKit
structure AtLM (w : World) (b o : Nat) (v : LM) : Prop where
 c0 : w.cell? ⟨b, o, none⟩ = some (i64 v.kind)
 c1 : w.cell? ⟨b, o + 1, none⟩ = some (i64 v.who)
 c2 : w.cell? ⟨b, o + 2, none⟩ = some (i64 v.n)
 c3 : w.cell? ⟨b, o + 3, none⟩ = some (i64 v.start)
 c4 : w.cell? ⟨b, o + 4, none⟩ = some (.bool v.take)
 c5 : w.cell? ⟨b, o + 5, none⟩ = some (.bool v.right)
 c6 : w.cell? ⟨b, o + 6, none⟩ = some (u64 v.value)
 c7 : w.cell? ⟨b, o + 7, none⟩ = some (i64 v.odd)
theorem AtLM.later {w w' : World} {b o : Nat} {v : LM} (h : AtLM w b o v) (e : Below w.heap.size w w') : AtLM w' b o v := by
 have hb := World.block_lt_of_cell? w _ h.c0
 exact ⟨(e.cell (p := ⟨b, o, none⟩) hb).trans h.c0, (e.cell (p := ⟨b, o + 1, none⟩) hb).trans h.c1, (e.cell (p := ⟨b, o + 2, none⟩) hb).trans h.c2, (e.cell (p := ⟨b, o + 3, none⟩) hb).trans h.c3, (e.cell (p := ⟨b, o + 4, none⟩) hb).trans h.c4, (e.cell (p := ⟨b, o + 5, none⟩) hb).trans h.c5, (e.cell (p := ⟨b, o + 6, none⟩) hb).trans h.c6, (e.cell (p := ⟨b, o + 7, none⟩) hb).trans h.c7⟩
def LM.Fit (v : LM) : Prop := 0 ≤ v.value ∧ v.value ≤ 18446744073709551615
theorem LM.base_fit {v : LM} (h : v.Fit) : v.base.Fit := by
  unfold LM.base CM.Fit
  split
  ·split
   ·exact ⟨Int.le_refl _, by show (0 : Int) ≤ 18446744073709551615; decide⟩
   ·exact h
  ·split
   ·exact ⟨Int.le_refl _, by show (0 : Int) ≤ 18446744073709551615; decide⟩
   ·exact ⟨Int.le_refl _, by show (0 : Int) ≤ 18446744073709551615; decide⟩
theorem LM.make_fit {v : LM} (h : v.Fit) : v.make.Fit := by
 have hb : v.base.Fit := LM.base_fit h
 unfold LM.make LM.turn
 generalize v.base = b at hb
 repeat' split
 all_goals first | exact hb | exact h
structure RowL (w : World) (A : Option Addr) (cap : Nat) (V : List LM) : Prop where
 cap : V.length ≤ cap
 at' : ∀ (i : Nat) (v : LM), V[i]? = some v → ∃ b off, A = some ⟨b, off, none⟩ ∧ AtLM w b (off + i * 8) v
 fit : ∀ v ∈ V, v.Fit
theorem RowL.later {w w' : World} {A : Option Addr} {cap : Nat} {V : List LM} (h : RowL w A cap V) (e : Below w.heap.size w w') : RowL w' A cap V :=
 ⟨h.cap, fun i v hi => by obtain ⟨b, off, h1, h2⟩ := h.at' i v hi; exact ⟨b, off, h1, h2.later e⟩, h.fit⟩
theorem zES {w : World} {A : Option Addr} {len cap : Nat} (h : IsRows w [.inl .i64, .inl .i64, .inl .i64, .inl .i64, .inr true, .inr true, .inl .u64, .inl .i64] A len cap) : ∃ V : List LM, V.length = len ∧ RowL w A cap V := by
 obtain ⟨h1, h2, h3, h4, h5⟩ := h
 rcases Nat.eq_zero_or_pos len with h0 | hl
 ·subst h0
  exact ⟨[], rfl, Nat.zero_le _, fun i v hi => by simp at hi, fun v hv => by cases hv⟩
 obtain ⟨b, off, rfl⟩ := h4 hl
 have hx : ∀ i, ∃ x : LM, i < len → AtLM w b (off + i * 8) x ∧ x.Fit := by
  intro i
  by_cases hi : i < len
  ·obtain ⟨cs, hf, hc⟩ := h5 b off rfl i hi
   obtain ⟨c0, l0, rfl, r0, f0⟩ := zAx hf
   obtain ⟨c1, l1, rfl, r1, f1⟩ := zAx f0
   obtain ⟨c2, l2, rfl, r2, f2⟩ := zAx f1
   obtain ⟨c3, l3, rfl, r3, f3⟩ := zAx f2
   obtain ⟨c4, l4, rfl, r4, f4⟩ := zAx f3
   obtain ⟨c5, l5, rfl, r5, f5⟩ := zAx f4
   obtain ⟨c6, l6, rfl, r6, f6⟩ := zAx f5
   obtain ⟨c7, l7, rfl, r7, f7⟩ := zAx f6
   obtain ⟨x0, rfl, g0⟩ := r0
   obtain ⟨x1, rfl, g1⟩ := r1
   obtain ⟨x2, rfl, g2⟩ := r2
   obtain ⟨x3, rfl, g3⟩ := r3
   obtain ⟨x4, rfl⟩ := r4
   obtain ⟨x5, rfl⟩ := r5
   obtain ⟨x6, rfl, g6⟩ := r6
   obtain ⟨x7, rfl, g7⟩ := r7
   exact ⟨⟨x0, x1, x2, x3, x4, x5, x6, x7⟩, fun _ => ⟨⟨hc 0 _ rfl, hc 1 _ rfl, hc 2 _ rfl, hc 3 _ rfl, hc 4 _ rfl, hc 5 _ rfl, hc 6 _ rfl, hc 7 _ rfl⟩, (bounds_u64 g6).1, (bounds_u64 g6).2⟩⟩
  ·exact ⟨⟨0, 0, 0, 0, false, false, 0, 0⟩, fun h => absurd h hi⟩
 obtain ⟨X, hX⟩ := Classical.axiomOfChoice hx
 refine ⟨(List.range len).map X, by simp, by simpa using h1, fun i v hi => ?_, fun v hv => ?_⟩
 ·have hlt : i < len := by
   have := (List.getElem?_eq_some_iff.1 hi).1
   simpa using this
  rw [List.getElem?_map, List.getElem?_range hlt] at hi
  cases hi
  exact ⟨b, off, rfl, (hX i hlt).1⟩
 ·obtain ⟨i, hi, rfl⟩ := List.mem_map.1 hv
  exact (hX i (List.mem_range.1 hi)).2
def mkL (V : List LM) : List CM := V.map LM.make
abbrev scTh (base sb : Nat) (t s so d : Int) (A : Option Addr) (cp : Nat) (ms : List CM) : List Thing :=
 [tObj base sb [i64 t, i64 s, i64 so, i64 d, .slice A ms.length cp], tRow base 39 7 (.slice A ms.length cp) ms.length (flatM ms)]
structure AtM0 (w : World) (b : Nat) (m : CM) : Prop where
 c0 : w.cell? ⟨b, 0, none⟩ = some (i64 m.k)
 c1 : w.cell? ⟨b, 1, none⟩ = some (i64 m.who)
 c2 : w.cell? ⟨b, 2, none⟩ = some (i64 m.ck)
 c3 : w.cell? ⟨b, 3, none⟩ = some (i64 m.ce)
 c4 : w.cell? ⟨b, 4, none⟩ = some (u64 m.v)
 c5 : w.cell? ⟨b, 5, none⟩ = some (i64 m.st)
 c6 : w.cell? ⟨b, 6, none⟩ = some (i64 m.n)
theorem AtM0.of {w : World} {b : Nat} {m : CM} (h : IsObj w b m.list) : AtM0 w b m := ⟨h.at' 0 _ rfl, h.at' 1 _ rfl, h.at' 2 _ rfl, h.at' 3 _ rfl, h.at' 4 _ rfl, h.at' 5 _ rfl, h.at' 6 _ rfl⟩
end
section
open Go.RowKit
def modeE (md ck : Int) : Int := if md = 1 ∧ ck = 1 then 0 else 1
theorem zFK (md ck ce v st : Int) (w : World) (hm : md = 0 ∨ md = 1) :
  Calls Tryz.prog 51 #[.int .i64 md, .agg #[.int .i64 ck, .int .i64 ce, .int .u64 v, .int .i64 st]] w fun r w' => r = .returned (.agg #[.int .i64 ck, .int .i64 (modeE md ck), .int .u64 v, .int .i64 st]) ∧ Below w.heap.size w w' := by
 rcases hm with rfl | rfl
 ·have he : modeE 0 ck = 1 := rfl
  rw [he]
  go_enter Tryz.func51, Tryz.ntmps51
  go_wp2_with fail
  exact bodyPost_ret (v := .agg #[.int .i64 ck, .int .i64 1, .int .u64 v, .int .i64 st]) (by simp [results, Tryz.results51, go_sem]) rfl ⟨rfl, by repeat (first | exact Below.refl _ _ | refine zAA ?_ _)⟩
 ·by_cases h : ck = 1
  ·subst h
   have he : modeE 1 1 = 0 := rfl
   rw [he]
   go_enter Tryz.func51, Tryz.ntmps51
   go_wp2_with fail
   exact bodyPost_ret (v := .agg #[.int .i64 1, .int .i64 0, .int .u64 v, .int .i64 st]) (by simp [results, Tryz.results51, go_sem]) rfl ⟨rfl, by repeat (first | exact Below.refl _ _ | refine zAA ?_ _)⟩
  ·have he : modeE 1 ck = 1 := if_neg (fun q => h q.2)
   have hb : (ck == 1) = false := beq_false_of_ne h
   rw [he]
   clear h
   go_enter Tryz.func51, Tryz.ntmps51
   go_wp2_with fail
   exact bodyPost_ret (v := .agg #[.int .i64 ck, .int .i64 1, .int .u64 v, .int .i64 st]) (by simp [results, Tryz.results51, go_sem]) rfl ⟨rfl, by repeat (first | exact Below.refl _ _ | refine zAA ?_ _)⟩
theorem Hold.ob4 {W w : World} {l : List Thing} {b : Nat} {x0 x1 x2 x3 x4 x5 x6 : Value} (h : Hold W w l) (i : Nat) (hi : l[i]? = some (tObj W.heap.size b [x0, x1, x2, x3, x4, x5, x6])) (y2 y3 y4 y5 : Value) :
  Hold W ((((w.setCell ⟨b, 2, none⟩ y2).setCell ⟨b, 3, none⟩ y3).setCell ⟨b, 4, none⟩ y4).setCell ⟨b, 5, none⟩ y5) (l.set i (tObj W.heap.size b [x0, x1, y2, y3, y4, y5, x6])) := by
 have hl := (List.getElem?_eq_some_iff.1 hi).1
 have h1 := h.cdSet i hi 2 y2
 have h2 := h1.cdSet i (List.getElem?_set_self hl) 3 y3
 have h3 := h2.cdSet i (List.getElem?_set_self (by rw [List.length_set]; exact hl)) 4 y4
 have h4 := h3.cdSet i (List.getElem?_set_self (by rw [List.length_set, List.length_set]; exact hl)) 5 y5
 rw [List.set_set, List.set_set, List.set_set] at h4
 exact h4
def FewOk (md : Int) (l : List CM) : Prop := ∀ m ∈ l, m.Fit ∧ (m.k = 0 → m.ce = modeE md m.ck)
theorem FewOk.snoc {md : Int} {l : List CM} {m : CM} (h : FewOk md l) (hf : m.Fit) (he : m.k = 0 → m.ce = modeE md m.ck) : FewOk md (l ++ [m]) := fun x hx => by
 rcases List.mem_append.1 hx with q | q
 ·exact h x q
 ·rw [List.mem_singleton.1 q]
  exact ⟨hf, he⟩
end
end Go.Proofs.YtebgjfhaolgcjaaGreat
