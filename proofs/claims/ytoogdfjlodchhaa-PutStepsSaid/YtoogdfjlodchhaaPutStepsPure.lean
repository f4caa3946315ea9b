/-
  A put beside a claim and a stamp of its own, over two memories that are alike: what a step of the parts comes to. No condition.
-/
import Derived.Test.YtoogdfjlodchhaaPutLaw
import Derived.Test.YtoogdfjlodchhaaWalkPutTurn
import Derived.Test.YtoogdfjlodchhaaMemSame
namespace Go.Proofs.Ytoogdfjlodchhaa
open Go.RowKit
set_option linter.unusedVariables false

def tTk (base b : Nat) (k : Tk) : Thing := ⟨fun w => IsTk w b k ∧ base ≤ b, fun i => i = b⟩
theorem tTk_ok (base b : Nat) (k : Tk) : (tTk base b k).Ok base :=
  ⟨fun _ _ _ h k hn => ⟨h.1.keep k (hn b rfl), h.2⟩, fun _ i h hi => by cases hi; exact ⟨h.2, h.1.lt⟩⟩

/-- Two memories, a put over the first; a claim and a stamp over the second. -/
abbrev twoL (base p c p' c' : Nat) (v v' : Value) (C C' : List Int) (L L' : List Ev) (b b1 b2 ba bt : Nat) (k : Pu) (a : Cl) (t : Tk) : List Thing :=
  [tMem base p c v C L, tMem base p' c' v' C' L', tPu base b b1 b2 k, tObj base ba a.list, tTk base bt t]

section
variable {k : Pu} {N : Nat} {m : Int} {nb hz : Nat} {C : List Int} {now : Int}
theorem two_find (hp : k.ph = 0) (hn : k.next = 0) : (k.step m nb hz C now).cl = k.cl.step m hz C ∧ (k.step m nb hz C now).tk = k.tk ∧ k.cells N nb C now = C ∧ k.ev N nb hz C now = k.cl.ev hz C ∧ (k.step m nb hz C now).ph = (if (k.cl.step m hz C).ph = 2 then 2 else 0) ∧ (k.step m nb hz C now).next ≠ 3 := by
  have h0 : ¬ k.ph ≠ 0 := by omega
  unfold Pu.step Pu.cells Pu.ev
  rw [if_neg h0, if_neg h0, if_neg h0, if_pos hn, if_pos hn, if_pos hn]
  refine ⟨Pu.after_cl _ _, Pu.after_tk _ _, rfl, rfl, ?_, ?_⟩
  · unfold Pu.after
    split
    · rw [if_neg (by omega)]
      exact hp
    · split
      · rfl
      · exact hp
  · unfold Pu.after
    split
    · show k.next + 1 ≠ 3
      omega
    · split
      · show k.next ≠ 3
        omega
      · show k.next ≠ 3
        omega
theorem two_date (hp : k.ph = 0) (hn : k.next = 1) : (k.step m nb hz C now).cl = k.cl ∧ (k.step m nb hz C now).tk = (stp nb k.tk C now).1 ∧ k.cells N nb C now = (stp nb k.tk C now).2.1 ∧ k.ev N nb hz C now = (stp nb k.tk C now).2.2.toList ∧ (k.step m nb hz C now).ph = (if (stp nb k.tk C now).1.ph = 2 then 2 else 0) ∧ (k.step m nb hz C now).next ≠ 3 := by
  have h0 : ¬ k.ph ≠ 0 := by omega
  have h1 : ¬ k.next = 0 := by omega
  unfold Pu.step Pu.cells Pu.ev
  rw [if_neg h0, if_neg h0, if_neg h0, if_neg h1, if_neg h1, if_neg h1, if_pos hn, if_pos hn, if_pos hn]
  refine ⟨Pu.after_cl _ _, Pu.after_tk _ _, rfl, rfl, ?_, ?_⟩
  · unfold Pu.after
    split
    · rw [if_neg (by omega)]
      exact hp
    · split
      · rfl
      · exact hp
  · unfold Pu.after
    split
    · show k.next + 1 ≠ 3
      omega
    · split
      · show k.next ≠ 3
        omega
      · show k.next ≠ 3
        omega
theorem two_fill (hp : k.ph = 0) (hn : k.next = 2) : (k.step m nb hz C now) = { k with next := 3 } ∧ k.cells N nb C now = C.set (N + k.cl.slot.toNat) k.value ∧ k.ev N nb hz C now = [⟨k.who, 1, (N + k.cl.slot.toNat : Nat), C.getD (N + k.cl.slot.toNat) 0, k.value, true⟩] := by
  have h0 : ¬ k.ph ≠ 0 := by omega
  have h1 : ¬ k.next = 0 := by omega
  have h2 : ¬ k.next = 1 := by omega
  unfold Pu.step Pu.cells Pu.ev
  rw [if_neg h0, if_neg h0, if_neg h0, if_neg h1, if_neg h1, if_neg h1, if_neg h2, if_neg h2, if_neg h2, if_pos hn, if_pos hn, if_pos hn]
  exact ⟨rfl, rfl, rfl⟩
theorem two_show (hp : k.ph = 0) (hn : k.next = 3) : (k.step m nb hz C now) = { k with ph := 1 } ∧ k.cells N nb C now = C.set k.cl.slot.toNat k.pack ∧ k.ev N nb hz C now = [⟨k.who, 1, (k.cl.slot.toNat : Nat), C.getD k.cl.slot.toNat 0, k.pack, true⟩] := by
  have h0 : ¬ k.ph ≠ 0 := by omega
  have h1 : ¬ k.next = 0 := by omega
  have h2 : ¬ k.next = 1 := by omega
  have h3 : ¬ k.next = 2 := by omega
  unfold Pu.step Pu.cells Pu.ev
  rw [if_neg h0, if_neg h0, if_neg h0, if_neg h1, if_neg h1, if_neg h1, if_neg h2, if_neg h2, if_neg h2, if_neg h3, if_neg h3, if_neg h3]
  exact ⟨rfl, rfl, rfl⟩
theorem two_rest (hp : k.ph ≠ 0) : (k.step m nb hz C now) = k ∧ k.cells N nb C now = C ∧ k.ev N nb hz C now = [] := ⟨if_pos hp, if_pos hp, if_pos hp⟩
end

section
variable {W w w' : World} {p c p' c' : Nat} {v v' : Value} {C C' : List Int} {L L' : List Ev} {b b1 b2 ba bt : Nat} {k : Pu} {a : Cl} {t : Tk}
theorem two_claim {N : Nat} {m : Int} {hz : Nat} (h : Hold W w (twoL W.heap.size p c p' c' v v' C C' L L' b b1 b2 ba bt k a t)) (hk : a.Ok N m hz C') (hL : L'.length < 1000000000) :
    Calls Try.prog 25 #[pt ba, pt p'] w fun r w' => r = .returned (i64 (a.step m hz C').ph) ∧ ∃ v'', Hold W w' (twoL W.heap.size p c p' c' v v'' C C' L (L' ++ a.ev hz C') b b1 b2 ba bt k (a.step m hz C') t) :=
  (clstep_any W.heap.size w ba p' c' v' C' L' a N m hz hk (Hold.has h 3 _ rfl).1 (Hold.has h 1 _ rfl) (Hold.free h 1 3 (by decide) rfl rfl ba rfl) (Hold.size h) hL).mono fun r w' ⟨hr, v'', hd, hs⟩ =>
    ⟨hr, v'', Hold.does h 1 3 (by decide) rfl rfl hd (tObj_ok _ _ _) ⟨hs, (Hold.has h 3 _ rfl).2⟩ (fun q hq => hq)⟩
theorem two_tick {N : Nat} {nb : Nat} {now : Int} (h : Hold W w (twoL W.heap.size p c p' c' v v' C C' L L' b b1 b2 ba bt k a t)) (hk : t.Ok nb N C') (n0 : 0 ≤ now) (hL : L'.length < 1000000000) :
    Calls Try.prog 27 #[pt bt, pt p', i64 now] w fun r w' => r = .returned (i64 (stp nb t C' now).1.ph) ∧ ∃ v'', Hold W w' (twoL W.heap.size p c p' c' v v'' C (stp nb t C' now).2.1 L (L' ++ (stp nb t C' now).2.2.toList) b b1 b2 ba bt k a (stp nb t C' now).1) :=
  (step_any W.heap.size w bt p' c' v' C' L' t nb N now hk n0 (Hold.has h 4 _ rfl).1 (Hold.has h 1 _ rfl) (Hold.free h 1 4 (by decide) rfl rfl bt rfl) (Hold.size h) hL).mono fun r w' ⟨hr, v'', hS⟩ =>
    ⟨hr, v'', Hold.does h 1 4 (by decide) rfl rfl hS.does (tTk_ok _ _ _) ⟨hS.tk, (Hold.has h 4 _ rfl).2⟩ (fun q hq => hq)⟩
theorem two_put {N : Nat} {m : Int} {nb hz : Nat} {now : Int} (h : Hold W w (twoL W.heap.size p c p' c' v v' C C' L L' b b1 b2 ba bt k a t)) (hk : k.Ok N m nb hz C) (n0 : 0 ≤ now) (hL : L.length < 1000000000) :
    Calls Try.prog 34 #[pt b, pt p, i64 now] w fun r w' => r = .returned (i64 (k.step m nb hz C now).ph) ∧ ∃ v'', Hold W w' (twoL W.heap.size p c p' c' v'' v' (k.cells N nb C now) C' (L ++ k.ev N nb hz C now) L' b b1 b2 ba bt (k.step m nb hz C now) a t) :=
  (pustep_any W.heap.size w b b1 b2 p c v C L k N m nb hz now hk n0 (Hold.has h 2 _ rfl).1 (Hold.has h 0 _ rfl) (Hold.free h 0 2 (by decide) rfl rfl) (Hold.size h) hL).mono fun r w' ⟨hr, v'', hd, hs⟩ =>
    ⟨hr, v'', Hold.does h 0 2 (by decide) rfl rfl hd (tPu_ok _ _ _ _ _) ⟨hs, (Hold.has h 2 _ rfl).2⟩ (fun q hq => hq)⟩
end

theorem two_made {W w w1 : World} {p c p' c' : Nat} {v v' : Value} {C : List Int} {L : List Ev} (h : Hold W w [tMem W.heap.size p c v C L]) (hM : IsMem W.heap.size w1 p' c' v' C L) (e : Below w.heap.size w w1) (hf : ∀ q, Foot p' c' v' q → w.heap.size ≤ q) : Hold W w1 [tMem W.heap.size p c v C L, tMem W.heap.size p' c' v' C L] :=
  Hold.more h e (tMem_ok _ _ _ _ _ _) hM hf

/-- Stamps as they are compared. -/
theorem pustamp_any' (w : World) (b b1 b2 : Nat) (k : Pu) (x y : Int) (hT : IsPu w b b1 b2 k) (hx : (if k.ph = 1 then k.tk.lo else 0) = x) (hy : (if k.ph = 1 then k.tk.hi else 0) = y) : Calls Try.prog 37 #[pt b] w fun r w' => r = .returned (st x y) ∧ Below w.heap.size w w' := by
  by_cases h : k.ph = 1
  · rw [if_pos h] at hx hy
    exact pustamp_at x y h hx hy hT
  · rw [if_neg h] at hx hy
    subst hx hy
    exact pustamp_no w b b1 b2 k h hT

end Go.Proofs.Ytoogdfjlodchhaa
