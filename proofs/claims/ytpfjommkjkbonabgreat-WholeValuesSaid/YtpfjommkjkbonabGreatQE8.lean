/- Contracts and plain lemmas that these laws need. No condition. -/
import Derived.Handy
import Derived.KernelRfl
import Derived.Test.YtpfjommkjkbonabGreatProg
import Derived.Test.YtpfjommkjkbonabGreatQE1
import Derived.Test.YtpfjommkjkbonabGreatQE6
import Derived.Test.YtpfjommkjkbonabGreatQE7
namespace Go.Proofs.YtpfjommkjkbonabGreat
set_option linter.unusedVariables false
set_option maxHeartbeats 8000000
set_option maxRecDepth 100000
section
open Go.RowKit
section
def GAtE (w : World) (A : Option Addr) (L : List Ev) : Prop :=
 L ≠ [] → ∃ b o, A = some ⟨b, o, none⟩ ∧ b < w.heap.size ∧ ∀ i e, L[i]? = some e → w.cell? ⟨b, o + i * 6, none⟩ = some (i64 e.who) ∧ w.cell? ⟨b, o + i * 6 + 1, none⟩ = some (i64 e.op) ∧ w.cell? ⟨b, o + i * 6 + 2, none⟩ = some (i64 e.cell) ∧
  w.cell? ⟨b, o + i * 6 + 3, none⟩ = some (u64 e.old) ∧ w.cell? ⟨b, o + i * 6 + 4, none⟩ = some (u64 e.new) ∧ w.cell? ⟨b, o + i * 6 + 5, none⟩ = some (.bool e.ok)
theorem zED : ∀ (L : List Ev) (i : Nat) (e : Ev), L[i]? = some e → ∀ j u, e.cells[j]? = some u → (flatE L)[i * 6 + j]? = some u
 | [], i, e, h, _, _, _ => by simp at h
 | f :: L, 0, e, h, j, u, hj => by
  simp only [List.getElem?_cons_zero, Option.some.injEq] at h
  subst h
  have hl : j < f.cells.length := (List.getElem?_eq_some_iff.1 hj).1
  rw [flatE, Nat.zero_mul, Nat.zero_add, List.getElem?_append_left hl]
  exact hj
 | f :: L, i + 1, e, h, j, u, hj => by
  have ih := zED L i e (by simpa using h) j u hj
  have hl : f.cells.length = 6 := rfl
  rw [flatE, List.getElem?_append_right (by omega), hl, show (i + 1) * 6 + j - 6 = i * 6 + j by omega]
  exact ih
theorem GAtE.row {w : World} {base : Nat} {A : Option Addr} {cap : Nat} {L : List Ev} (h : w.ownsRow base 107 6 (.slice A L.length cap) L.length (flatE L)) : GAtE w A L := fun hne => by
 rcases h.2 with ⟨_, h0⟩ | ⟨g, cap', cur, hv, hg, hh, _⟩
 ·exact absurd (List.eq_nil_of_length_eq_zero h0) hne
 ·cases hv
  refine ⟨g, 0, rfl, (h.lt g rfl).2, fun i e he => ?_⟩
  have hi := (List.getElem?_eq_some_iff.1 he).1
  have k : ∀ j u, e.cells[j]? = some u → w.cell? ⟨g, 0 + i * 6 + j, none⟩ = some u := fun j u hj => by
   have hjl : j < e.cells.length := (List.getElem?_eq_some_iff.1 hj).1
   have hjl' : e.cells.length = 6 := rfl
   rw [show 0 + i * 6 + j = i * 6 + j by omega, h.cellAt (i * 6 + j) (by omega)]
   exact zED L i e he j u hj
  exact ⟨k 0 _ rfl, k 1 _ rfl, k 2 _ rfl, k 3 _ rfl, k 4 _ rfl, k 5 _ rfl⟩
section
variable {k : Ge} {N hz : Nat} {C : List Int} {z z' : Int}
theorem Ge.step_one (hk : k.Ok N hz C) (hf : ∀ j, 0 ≤ C.getD j 0 ∧ C.getD j 0 ≤ 18446744073709551615) (h : k.ask C z) (h' : k.ask C z') : k.step N hz C z = k.step N hz C z' := by
 by_cases hp : k.ph = 0
 ·cases hta : k.ta with
  | some a =>
   unfold Ge.step
   rw [if_neg (by omega), if_neg (by omega), hta]
  | none =>
   by_cases hd : (k.sn.step C).ph = 1
   ·have h1 := h hp hta hd
    have h2 := h' hp hta hd
    have hx := zDi (k := k.sn) (C := C) hk.sX hf
    obtain ⟨s1, s2⟩ := hk.sn hp hta
    have hn2 := hk.lay.n2
    have hp1 : (k.sn.X.set k.sn.slot (C.getD k.sn.slot 0)).length = k.sn.N := by rw [List.length_set]; exact s1.X
    have hl : (k.sn.step C).X.length = k.sn.N := by
     unfold Sn.step
     rw [if_pos s2]
     split
     ·exact hp1
     ·exact hp1
    have hN := s1.N
    rw [zFU hx.2 (by omega) h1 h2]
   ·have e : ∀ y, k.step N hz C y = { k with sn := k.sn.step C } := fun y => by
     have e1 : k.step N hz C y = k.read (k.sn.step C) y := by unfold Ge.step; rw [if_neg (by omega), hta]
     rw [e1]
     unfold Ge.read
     rw [if_pos hd]
    rw [e, e]
 ·rw [show k.step N hz C z = k from if_pos hp, show k.step N hz C z' = k from if_pos hp]
end
def GS (W w : World) (p c p' c' : Nat) (C : List Int) (L : List Ev) (C' : List Int) (L' : List Ev) (b : Nat) (k : Ge) (R : List Thing) : Prop :=
 ∃ v', GeH W w p c C L b k (tMem W.heap.size p' c' v' C' L' :: R)
section
variable {W w w' : World} {p c p' c' b : Nat} {C C' : List Int} {L L' : List Ev} {k : Ge} {R : List Thing}
theorem GS.later (h : GS W w p c p' c' C L C' L' b k R) (e : Below w.heap.size w w') : GS W w' p c p' c' C L C' L' b k R := by
 obtain ⟨v', h⟩ := h
 exact ⟨v', h.later e⟩
theorem GS.drew (h : GS W w p c p' c' C L C' L' b k R) : GS W w.drew p c p' c' C L C' L' b k R := h.later (Below.refl _ _).drew
theorem GS.below (h : GS W w p c p' c' C L C' L' b k R) : Below W.heap.size W w := by
 obtain ⟨v', h⟩ := h
 exact h.below
theorem GS.size (h : GS W w p c p' c' C L C' L' b k R) : W.heap.size ≤ w.heap.size := by
 obtain ⟨v', h⟩ := h
 exact h.size
theorem GS.fit (h : GS W w p c p' c' C L C' L' b k R) : ∀ j, 0 ≤ C.getD j 0 ∧ C.getD j 0 ≤ 18446744073709551615 := by
 obtain ⟨v', h⟩ := h
 exact h.fit
theorem GS.get (h : GS W w p c p' c' C L C' L' b k R) : ∃ R', GeH W w p c C L b k R' := by
 obtain ⟨v', h⟩ := h
 exact ⟨_, h⟩
theorem GS.call {N hz : Nat} (h : GS W w p c p' c' C L C' L' b k R) (hk : k.Ok N hz C) (hL : L.length < 1000000000) :
  Calls Tryz.prog 95 #[pt b, pt p] w fun r w' => ∃ z, k.ask C z ∧ r = .returned (i64 (k.step N hz C z).ph) ∧ GS W w' p c p' c' (k.cells N hz C) (L ++ k.ev N hz C) C' L' b (k.step N hz C z) R := by
 obtain ⟨v', h⟩ := h
 refine (h.call hk hL).mono ?_
 rintro r w' ⟨z, h1, h2, h3⟩
 exact ⟨z, h1, h2, v', h3⟩
theorem GS.words {ba ga : Nat} {s : Sn} (h : GS W w p c p' c' C L C' L' b k [tSn W.heap.size ba ga s]) (hp : s.ph = 1) (hN : s.N ≤ 4096) :
  Calls Tryz.prog 156 #[pt ba] w (WordsPost s.X s.N w) := by
 obtain ⟨v', v, bs, gs, bt, h⟩ := h
 exact zCa W.heap.size w ba ga s hp hN (h.has 3 _ rfl)
theorem GS.take {x : Nat} {a : Ta} {n : Int} {j jv hz : Nat} (h : GS W w p c p' c' C L C' L' b k [tObj W.heap.size x a.list]) (hk : a.Ok n j jv hz C') (hL : L'.length < 1000000000) :
  Calls Tryz.prog 159 #[pt x, pt p'] w fun r w' => r = .returned (i64 (a.go j jv C').ph) ∧ GS W w' p c p' c' C L (a.cells j hz C') (L' ++ a.ev j jv hz C') b k [tObj W.heap.size x (a.go j jv C').list] := by
 obtain ⟨v', v, bs, gs, bt, h⟩ := h
 refine (zB0 W.heap.size w x p' c' v' C' L' a n j jv hz hk (h.has 3 _ rfl).1 (h.has 2 _ rfl) (Hold.free h 2 3 (by decide) rfl rfl x rfl) h.size hL).mono ?_
 rintro r w' ⟨hr, v'', hd, hs⟩
 exact ⟨hr, v'', v, bs, gs, bt, Hold.does h 2 3 (by decide) rfl rfl hd (zAP _ _ _) ⟨hs, (h.has 3 _ rfl).2⟩ (fun q hq => hq)⟩
theorem GS.value {x : Nat} {a : Ta} (h : GS W w p c p' c' C L C' L' b k [tObj W.heap.size x a.list]) (y : Int) (hy : (if a.ph = 1 then a.value else 0) = y) :
  Calls Tryz.prog 128 #[pt x] w fun r w' => r = .returned (u64 y) ∧ Below w.heap.size w w' := by
 obtain ⟨v', v, bs, gs, bt, h⟩ := h
 exact zBJ (zDE y hy (h.has 3 _ rfl).1)
theorem GS.fresh {T : Thing} (h : GS W w p c p' c' C L C' L' b k R) (e : Below w.heap.size w w') (ok : T.Ok W.heap.size) (hP : T.P w') (hF : ∀ q, T.F q → w.heap.size ≤ q) : GS W w' p c p' c' C L C' L' b k [T] := by
 obtain ⟨v', v, bs, gs, bt, h⟩ := h
 exact ⟨v', v, bs, gs, bt, Hold.more (Hold.less (l := [_, _, _]) h) e ok hP hF⟩
theorem GS.only (h : GS W w p c p' c' C L C' L' b k R) : GS W w p c p' c' C L C' L' b k [] := by
 obtain ⟨v', v, bs, gs, bt, h⟩ := h
 exact ⟨v', v, bs, gs, bt, Hold.less (l := [_, _, _]) h⟩
end
structure GFit (base : Nat) (k : Ge) (va vb : Value) (R : List Thing) : Prop where
 s : k.ph = 0 → k.ta = none → vb = .pointer none ∧ ∃ ba ga, va = pt ba ∧ R = [tSn base ba ga k.sn]
 t : k.ph = 0 → ∀ a, k.ta = some a → ∃ x, vb = pt x ∧ R = [tObj base x a.list]
section
variable {W w w' : World} {p c p' c' b : Nat} {C C' : List Int} {L L' : List Ev} {k : Ge} {R : List Thing}
theorem GS.more {T : Thing} (h : GS W w p c p' c' C L C' L' b k R) (e : Below w.heap.size w w') (ok : T.Ok W.heap.size) (hP : T.P w') (hF : ∀ q, T.F q → w.heap.size ≤ q) : GS W w' p c p' c' C L C' L' b k (R ++ [T]) := by
 obtain ⟨v', v, bs, gs, bt, h⟩ := h
 exact ⟨v', v, bs, gs, bt, Hold.more h e ok hP hF⟩
theorem GS.less {Q : List Thing} (h : GS W w p c p' c' C L C' L' b k (R ++ Q)) : GS W w p c p' c' C L C' L' b k R := by
 obtain ⟨v', v, bs, gs, bt, h⟩ := h
 exact ⟨v', v, bs, gs, bt, Hold.less (l := tMem W.heap.size p c v C L :: tGe W.heap.size b bs gs bt k :: tMem W.heap.size p' c' v' C' L' :: R) h⟩
theorem GS.at {A : Thing} (h : GS W w p c p' c' C L C' L' b k R) (i : Nat) (hi : R[i]? = some A) : A.P w := by
 obtain ⟨v', v, bs, gs, bt, h⟩ := h
 exact h.has (i + 3) A hi
end
def bxL (base bx sb p p' : Nat) (ta ts : Int) (x : Th) : List Thing := [tObj base bx [i64 ta, i64 ts, i64 x.state, i64 x.gen, i64 x.at', i64 x.wide, .bool x.right, u64 x.value], tObj base sb [pt p, pt p']]
def IsTn (w : World) (a0 : Option Addr) (len cap b off : Nat) (X : Nat → Int × Int × Th) : Prop :=
 ∀ i, i < len → a0 = some ⟨b, off, none⟩ ∧ len ≤ cap ∧ b < w.heap.size ∧ w.cell? ⟨b, off + i * 8, none⟩ = some (i64 (X i).1) ∧ w.cell? ⟨b, off + i * 8 + 1, none⟩ = some (i64 (X i).2.1) ∧ w.cell? ⟨b, off + i * 8 + 2, none⟩ = some (i64 (X i).2.2.state) ∧ w.cell? ⟨b, off + i * 8 + 3, none⟩ = some (i64 (X i).2.2.gen) ∧ w.cell? ⟨b, off + i * 8 + 4, none⟩ = some (i64 (X i).2.2.at') ∧ w.cell? ⟨b, off + i * 8 + 5, none⟩ = some (i64 (X i).2.2.wide) ∧ w.cell? ⟨b, off + i * 8 + 6, none⟩ = some (.bool (X i).2.2.right) ∧ w.cell? ⟨b, off + i * 8 + 7, none⟩ = some (u64 (X i).2.2.value) ∧ 0 ≤ (X i).2.2.value ∧ (X i).2.2.value ≤ 18446744073709551615
theorem IsTn.later {w w' : World} {a : Option Addr} {len cap tb off B : Nat} {X : Nat → Int × Int × Th} (h : IsTn w a len cap tb off X) (e : Below B w w') (hB : ∀ i, i < len → tb < B) : IsTn w' a len cap tb off X := fun i hi => by
 obtain ⟨h1, h2, h3, x0, x1, x2, x3, x4, x5, x6, x7, h8⟩ := h i hi
 have hk : ∀ j, w'.cell? ⟨tb, j, none⟩ = w.cell? ⟨tb, j, none⟩ := fun j => e.cell (p := ⟨tb, j, none⟩) (hB i hi)
 have h9 := (hk _).trans x0
 exact ⟨h1, h2, World.block_lt_of_cell? w' _ h9, h9, (hk _).trans x1, (hk _).trans x2, (hk _).trans x3, (hk _).trans x4, (hk _).trans x5, (hk _).trans x6, (hk _).trans x7, h8⟩
end
section
abbrev callV (kd e v s : Int) : Value := .agg #[i64 kd, i64 e, u64 v, i64 s]
abbrev replyV (ok : Bool) (v lo hi : Int) : Value := .agg #[.bool ok, u64 v, i64 lo, i64 hi]
abbrev taskL (kd e v s : Int) (wk : Value) : List Value := [i64 kd, i64 e, u64 v, i64 s, wk]
abbrev wPut (b : Nat) : Value := .iface 153 (pt b)
abbrev wGet (b : Nat) : Value := .iface 155 (pt b)
theorem zBt (W : World) (v : Value) : (Instr.typeAssert (.iface 153 v) 150 153 true).run Tryz.prog W = .ok (.tuple #[v, .bool true]) W := by kernel_rfl
theorem zE7 (W : World) (v : Value) : (Instr.typeAssert (.iface 153 v) 150 155 true).run Tryz.prog W = .ok (.tuple #[.pointer none, .bool false]) W := by kernel_rfl
theorem zBw (W : World) (v : Value) : (Instr.typeAssert (.iface 155 v) 150 153 true).run Tryz.prog W = .ok (.tuple #[.pointer none, .bool false]) W := by kernel_rfl
theorem zBx (W : World) (v : Value) : (Instr.typeAssert (.iface 155 v) 150 155 true).run Tryz.prog W = .ok (.tuple #[v, .bool true]) W := by kernel_rfl
theorem ret_b {a b : Bool} (h : a = b) : Ending.returned (.bool a) = .returned (.bool b) := by rw [h]
theorem zBp (kd e v s : Int) (w : World) :
  Calls Tryz.prog 67 #[callV kd e v s] w fun r w' => r = .returned (.bool (decide ((kd = 0 ∨ kd = 1) ∧ (e = 0 ∨ e = 1)))) ∧ Below w.heap.size w w' := by
 go_enter Tryz.func67, Tryz.ntmps67
 go_wp2
 all_goals
  go_ret
  refine ⟨?_, zAA (Below.refl _ _) _⟩
  exact ret_b (by grind)
theorem zAy (kd e v s : Int) (w : World) (hk : kd = 0 ∨ kd = 1) (he : e = 0 ∨ e = 1) :
  Calls Tryz.prog 67 #[callV kd e v s] w fun r w' => r = .returned (.bool true) ∧ Below w.heap.size w w' := by
 have h := zBp kd e v s w
 rw [decide_eq_true ⟨hk, he⟩] at h
 exact h
section
variable {w w' : World} {b : Nat} {kd e v s : Int} {wk : Value}
structure AtTask (w : World) (b : Nat) (kd e v s : Int) (wk : Value) : Prop where
 c0 : w.cell? ⟨b, 0, none⟩ = some (i64 kd)
 c1 : w.cell? ⟨b, 1, none⟩ = some (i64 e)
 c2 : w.cell? ⟨b, 2, none⟩ = some (u64 v)
 c3 : w.cell? ⟨b, 3, none⟩ = some (i64 s)
 c4 : w.cell? ⟨b, 4, none⟩ = some wk
theorem IsObj.task (h : IsObj w b (taskL kd e v s wk)) : AtTask w b kd e v s wk := ⟨h.at' 0 _ rfl, h.at' 1 _ rfl, h.at' 2 _ rfl, h.at' 3 _ rfl, h.at' 4 _ rfl⟩
theorem zB1 {bp b1 b2 : Nat} {k : Pu} (h : IsObj w b (taskL kd e v s (wPut bp))) (hk : IsPu w bp b1 b2 k) : Calls Tryz.prog 97 #[pt b] w fun r w' => r = .returned (i64 k.ph) ∧ w = w' := by
 have c4 := h.task.c4
 have HK := zIt hk
 clear h hk
 go_enter Tryz.func97, Tryz.ntmps97
 go_wp2_with fail
 refine (zEg _ _ _ _ _ HK.out.obj).mono ?_
 rintro r w' ⟨rfl, rfl⟩
 go_wp2
 go_ret
 exact ⟨rfl, rfl⟩
theorem zCG {bp b1 b2 : Nat} {k : Pu} (h : IsObj w b (taskL kd e v s (wPut bp))) (hk : IsPu w bp b1 b2 k) : Calls Tryz.prog 96 #[pt b] w fun r w' => r = .returned (.bool (k.ph != 0)) ∧ w = w' := by
 have HP := zIt (zB1 h hk)
 clear h hk
 go_enter Tryz.func96, Tryz.ntmps96
 go_wp2_with fail
 refine HP.out.mono ?_
 rintro r w' ⟨rfl, rfl⟩
 go_wp2
 go_ret
 exact ⟨rfl, rfl⟩
end
section
variable {W w w' : World} {p c b bp b1 b2 : Nat} {v : Value} {C : List Int} {L : List Ev} {k : Pu} {R : List Thing} {kd e x s : Int}
abbrev tTask (W : World) (b : Nat) (kd e x s : Int) (wk : Value) : Thing := tObj W.heap.size b (taskL kd e x s wk)
theorem PuHold.obj (h : PuHold W w p c v C L bp b1 b2 k (tTask W b kd e x s (wPut bp) :: R)) : IsObj w b (taskL kd e x s (wPut bp)) := (Hold.has h 2 _ rfl).1
theorem zGs {now : Int} {k' : Pu} {C' : List Int} {L' : List Ev} (h : IsObj w b (taskL kd e x s (wPut bp)))
  (hin : Calls Tryz.prog 94 #[pt bp, pt p, i64 now] w fun r w' => r = .returned (i64 k'.ph) ∧ ∃ v', PuHold W w' p c v' C' L' bp b1 b2 k' (tTask W b kd e x s (wPut bp) :: R)) :
  Calls Tryz.prog 69 #[pt b, pt p, i64 now] w fun r w' => r = .returned (.bool (k'.ph != 0)) ∧ ∃ v', PuHold W w' p c v' C' L' bp b1 b2 k' (tTask W b kd e x s (wPut bp) :: R) := by
 have c4 := h.task.c4
 have HC := zIt hin
 have a1 := zBt w (pt bp)
 clear h hin
 go_enter Tryz.func69, Tryz.ntmps69
 go_wp2_with fail
 refine HC.out.mono ?_
 rintro r w1 ⟨rfl, v1, hH⟩
 have HH := zIt hH
 have HO := zIt (zCG hH.obj hH.pu)
 clear hH c4 a1
 go_wp2_with fail
 refine HO.out.mono ?_
 rintro r w2 ⟨rfl, rfl⟩
 go_wp2
 go_ret
 exact ⟨rfl, v1, HH.out⟩
theorem PuHold.tstep {N : Nat} {m : Int} {nb hz : Nat} {now : Int} (h : PuHold W w p c v C L bp b1 b2 k (tTask W b kd e x s (wPut bp) :: R)) (hk : k.Ok N m nb hz C) (n0 : 0 ≤ now) (hL : L.length < 1000000000) :
  Calls Tryz.prog 69 #[pt b, pt p, i64 now] w fun r w' => r = .returned (.bool ((k.step m nb hz C now).ph != 0)) ∧ ∃ v', PuHold W w' p c v' (k.cells N nb C now) (L ++ k.ev N nb hz C now) bp b1 b2 (k.step m nb hz C now) (tTask W b kd e x s (wPut bp) :: R) :=
 zGs h.obj (h.call hk n0 hL)
def Pu.reply (k : Pu) : Value := if k.ph = 1 then replyV true 0 k.tk.lo k.tk.hi else replyV false 0 0 0
theorem PuHold.treply (h : PuHold W w p c v C L bp b1 b2 k (tTask W b kd e x s (wPut bp) :: R)) :
  Calls Tryz.prog 70 #[pt b] w fun r w' => r = .returned k.reply ∧ Below w.heap.size w w' := by
 have HH := zIt (h.later (zAA (Below.refl _ _) (.cells #[.bool false, .int .u64 0, .int .i64 0, .int .i64 0] 37)))
 by_cases hp : k.ph = 1
 ·have HR : Hid (k.reply = replyV true 0 k.tk.lo k.tk.hi) := if_pos hp
  have q : (k.ph != 1) = false := by simp [hp]
  have HP := zIt hp
  have HF := zIt (zB1 HH.out.obj HH.out.pu)
  clear h hp
  go_enter Tryz.func70, Tryz.ntmps70
  go_wp2_with fail
  refine HF.out.mono ?_
  rintro r w1 ⟨rfl, rfl⟩
  clear HF
  replace HH := zIt (HH.out.later (zAA (Below.refl _ _) (.cells #[.bool true, .int .u64 0, .int .i64 0, .int .i64 0] 37)))
  have c4 := HH.out.obj.task.c4
  have a1 := fun W => zBt W (pt bp)
  have a2 := fun W => zE7 W (pt bp)
  go_wp2_with fail
  refine (zEc _ _ _ _ _ HP.out HH.out.pu).mono ?_
  rintro r w1 ⟨rfl, hb1⟩
  have c5 := (HH.out.later hb1).obj.task.c4
  obtain ⟨hc, hf⟩ := bcell hb1
  go_wp2
  rw [HR.out]
  have k0 : ∀ j x, (#[Value.bool false, .int .u64 0, .int .i64 0, .int .i64 0] : Array Value)[j]? = some x → (w1.cell? ⟨w.heap.size, j, none⟩).isSome = true := fun j x hj => by
   rw [hc _ _ (by simp; omega), World.cell?_alloc_old _ _ _ (by simp), World.cell?_alloc_new, hj]
   rfl
  have k1 : (w1.cell? ⟨w.heap.size, 0, none⟩).isSome = true := k0 0 _ rfl
  have k2 : (w1.cell? ⟨w.heap.size, 1, none⟩).isSome = true := k0 1 _ rfl
  have k3 : (w1.cell? ⟨w.heap.size, 2, none⟩).isSome = true := k0 2 _ rfl
  have k4 : (w1.cell? ⟨w.heap.size, 3, none⟩).isSome = true := k0 3 _ rfl
  have hbb : Below w.heap.size w w1 := zAB (zAA (zAA (Below.refl _ _) _) _) hb1
  exact bodyPost_ret (v := replyV true 0 k.tk.lo k.tk.hi) (by simp [results, Tryz.results70, go_sem, k1, k2, k3, k4]) rfl ⟨rfl, zAG (zAG (zAG (zAG (zAG (zAG hbb (Nat.le_succ _) _) (Nat.le_succ _) _) (Nat.le_refl _) _) (Nat.le_refl _) _) (Nat.le_refl _) _) (Nat.le_refl _) _⟩
 ·have HR : Hid (k.reply = replyV false 0 0 0) := if_neg hp
  have q : (k.ph != 1) = true := by simp [hp]
  have HF := zIt (zB1 HH.out.obj HH.out.pu)
  clear h hp
  go_enter Tryz.func70, Tryz.ntmps70
  go_wp2_with fail
  refine HF.out.mono ?_
  rintro r w1 ⟨rfl, rfl⟩
  clear HF
  go_wp2
  rw [HR.out]
  exact bodyPost_ret (v := replyV false 0 0 0) (by simp [results, Tryz.results70, go_sem]) rfl ⟨rfl, by repeat' first | exact zAA (Below.refl _ _) _ | refine zAG ?_ (by simp) _⟩
end
structure Begun3 (w W : World) (t s so d kd e x start : Int) : Prop where
 conf : AtC W w.heap.size t s so d
 call : IsObj W (w.heap.size + 1) [i64 kd, i64 e, u64 x, i64 start]
 task : IsObj W (w.heap.size + 1 + 1) (taskL kd e x start .nilIface)
 below : Below w.heap.size w W
 size : W.heap.size = w.heap.size + 1 + 1 + 1
theorem Begun3.made (w : World) (t s so d kd e x start : Int) : Begun3 w (((w.alloc (.cells #[.int .i64 t, .int .i64 s, .int .i64 so, .int .i64 d] 47)).alloc (.cells #[i64 kd, i64 e, u64 x, i64 start] 33)).alloc (.cells #[i64 kd, i64 e, u64 x, i64 start, .nilIface] 152)) t s so d kd e x start := by
 have s1 : (w.alloc (.cells #[.int .i64 t, .int .i64 s, .int .i64 so, .int .i64 d] 47)).heap.size = w.heap.size + 1 := by simp
 have h1 := AtC.made w t s so d
 have b1 := zAA (Below.refl w.heap.size w) (.cells #[.int .i64 t, .int .i64 s, .int .i64 so, .int .i64 d] 47)
 generalize w.alloc (.cells #[.int .i64 t, .int .i64 s, .int .i64 so, .int .i64 d] 47) = wa at s1 h1 b1 ⊢
 have s2 : (wa.alloc (.cells #[i64 kd, i64 e, u64 x, i64 start] 33)).heap.size = wa.heap.size + 1 := by simp
 have h2 : IsObj (wa.alloc (.cells #[i64 kd, i64 e, u64 x, i64 start] 33)) wa.heap.size [i64 kd, i64 e, u64 x, i64 start] := IsObj.made wa [i64 kd, i64 e, u64 x, i64 start] 33
 have b2 := zAA (Below.refl wa.heap.size wa) (.cells #[i64 kd, i64 e, u64 x, i64 start] 33)
 generalize wa.alloc (.cells #[i64 kd, i64 e, u64 x, i64 start] 33) = wb at s2 h2 b2 ⊢
 have s3 : (wb.alloc (.cells #[i64 kd, i64 e, u64 x, i64 start, .nilIface] 152)).heap.size = wb.heap.size + 1 := by simp
 have h3 : IsObj (wb.alloc (.cells #[i64 kd, i64 e, u64 x, i64 start, .nilIface] 152)) wb.heap.size (taskL kd e x start .nilIface) := IsObj.made wb [i64 kd, i64 e, u64 x, i64 start, .nilIface] 152
 have b3 := zAA (Below.refl wb.heap.size wb) (.cells #[i64 kd, i64 e, u64 x, i64 start, .nilIface] 152)
 generalize wb.alloc (.cells #[i64 kd, i64 e, u64 x, i64 start, .nilIface] 152) = wc at s3 h3 b3 ⊢
 rw [s1] at h2 s2
 rw [s2] at h3 s3
 exact ⟨(h1.later b2 (by omega)).later b3 (by omega), h2.later b3, h3, zAB b1 (zAB b2 b3 |>.mono (by omega)), s3⟩
theorem Begun3.later {w W W' : World} {t s so d kd e x start : Int} (h : Begun3 w W t s so d kd e x start) (k : Below W.heap.size W W') : AtC W' w.heap.size t s so d ∧ IsObj W' (w.heap.size + 1) [i64 kd, i64 e, u64 x, i64 start] ∧ IsObj W' (w.heap.size + 1 + 1) (taskL kd e x start .nilIface) :=
 ⟨h.conf.later k (by have := h.size; omega), h.call.later k, h.task.later k⟩
section
variable {w : World} {N : Nat}
def TpB (b bp b1 b2 : Nat) (i : Nat) : Prop := i = b ∨ PuB bp b1 b2 i
theorem zDm (t s so d who e x start m : Int) (hl : Lay t s N) (w0 : 0 ≤ who) (w1 : who < t) (hm : who * s = m) (m0 : 0 ≤ m) (m1 : m + s ≤ N) (he : e = 0 ∨ e = 1) :
  Calls Tryz.prog 68 #[cf t s so d, i64 who, callV 0 e x start] w fun r w' => ∃ b bp b1 b2, r = .returned (pt b) ∧ IsObj w' b (taskL 0 e x start (wPut bp)) ∧ IsPu w' bp b1 b2 (pu0 t s so d who e x m) ∧ Below w.heap.size w w' ∧ (∀ i, TpB b bp b1 b2 i → w.heap.size ≤ i) ∧ ¬ PuB bp b1 b2 b := by
 have HN := zIt (fun w => zF2 (N := N) (m := m) w t s so d who e x hl w0 w1 hm m0 m1)
 have HR := zIt (fun w => zAy 0 e x start w (.inl rfl) he)
 have HF := zIt (Begun3.made w t s so d 0 e x start)
 clear hm he hl w0 w1 m0 m1
 go_enter Tryz.func68, Tryz.ntmps68
 go_wp2_with fail
 generalize ((w.alloc (.cells #[.int .i64 t, .int .i64 s, .int .i64 so, .int .i64 d] 47)).alloc (.cells #[i64 0, i64 e, u64 x, i64 start] 33)).alloc (.cells #[i64 0, i64 e, u64 x, i64 start, .nilIface] 152) = W at HF ⊢
 refine (HR.out W).mono ?_
 rintro r w1 ⟨rfl, hb1⟩
 obtain ⟨⟨c0, c1, c2, c3⟩, hC, hT⟩ := HF.out.later hb1
 have d0 := hC.at' 0 _ rfl
 have d1 := hC.at' 1 _ rfl
 have d2 := hC.at' 2 _ rfl
 have HB := zIt (zAR HF.out.below hb1 HF.out.below.size)
 have HT := zIt hT
 clear hC hT
 go_wp2_with fail
 refine (HN.out w1).mono ?_
 rintro r w2 ⟨bp, b1, b2, rfl, hP, hb2, hn⟩
 have hO := HT.out.later hb2
 have hf := hO.fz 4
 have e4 := hO.at' 4 _ rfl
 have hs1 := HF.out.size
 have hs2 := hb1.size
 have hP2 : IsPu (w2.setCell ⟨w.heap.size + 1 + 1, 4, none⟩ (wPut bp)) bp b1 b2 (pu0 t s so d who e x m) := hP.keep (T := (· = w.heap.size + 1 + 1)) ((Keep.refl _ _).own 4 _) (fun h => by have := hn bp (.inl rfl); omega) (fun h => by have := hn b1 (.inr (.inl rfl)); omega) (fun h => by have := hn b2 (.inr (.inr rfl)); omega)
 have HX := zIt hP2
 have HY := zIt (hO.set 4 (wPut bp))
 have HZ : Hid (Below w.heap.size w (w2.setCell ⟨w.heap.size + 1 + 1, 4, none⟩ (wPut bp))) := zAG (zAR HB.out hb2 HB.out.size) (by show w.heap.size ≤ w.heap.size + 1 + 1; omega) _
 have HN2 : Hid ((∀ i, TpB (w.heap.size + 1 + 1) bp b1 b2 i → w.heap.size ≤ i) ∧ ¬ PuB bp b1 b2 (w.heap.size + 1 + 1)) := by
  refine ⟨fun i hi => ?_, fun h => by have := hn _ h; omega⟩
  rcases hi with rfl | hi
  ·omega
  ·have := hn _ hi
   omega
 clear hP2 hO hP hn
 go_wp2_with fail
 go_ret
 exact ⟨_, bp, b1, b2, rfl, HY.out, HX.out, HZ.out, HN2.out⟩
end
end
section
section
variable {base : Nat} {w w' : World} {b bg bs gs : Nat} {bt : Option Nat} {kd e x s : Int} {k : Ge}
theorem zCu (h : IsObj w b (taskL kd e x s (wGet bg))) (hk : IsGe base w bg bs gs bt k) : Calls Tryz.prog 97 #[pt b] w fun r w' => r = .returned (i64 k.ph) ∧ w = w' := by
 have c4 := h.task.c4
 have HK := zIt hk
 clear h hk
 go_enter Tryz.func97, Tryz.ntmps97
 go_wp2_with fail
 refine (zEK _ _ _ _ _ _ _ HK.out).mono ?_
 rintro r w' ⟨rfl, rfl⟩
 go_wp2
 go_ret
 exact ⟨rfl, rfl⟩
theorem zD0 (h : IsObj w b (taskL kd e x s (wGet bg))) (hk : IsGe base w bg bs gs bt k) : Calls Tryz.prog 96 #[pt b] w fun r w' => r = .returned (.bool (k.ph != 0)) ∧ w = w' := by
 have HP := zIt (zCu h hk)
 clear h hk
 go_enter Tryz.func96, Tryz.ntmps96
 go_wp2_with fail
 refine HP.out.mono ?_
 rintro r w' ⟨rfl, rfl⟩
 go_wp2
 go_ret
 exact ⟨rfl, rfl⟩
end
section
variable {W w w' : World} {p c b bg : Nat} {C : List Int} {L : List Ev} {k : Ge} {R : List Thing} {kd e x s : Int}
theorem GeH.obj (h : GeH W w p c C L bg k (tTask W b kd e x s (wGet bg) :: R)) : IsObj w b (taskL kd e x s (wGet bg)) := by
 obtain ⟨v, bs, gs, bt, h⟩ := h
 exact (Hold.has h 2 _ rfl).1
theorem GeH.tover (h : GeH W w p c C L bg k (tTask W b kd e x s (wGet bg) :: R)) : Calls Tryz.prog 96 #[pt b] w fun r w' => r = .returned (.bool (k.ph != 0)) ∧ w = w' := by
 have ho := h.obj
 obtain ⟨v, bs, gs, bt, h⟩ := h
 exact zD0 ho (h.has 1 _ rfl)
theorem zGv {now : Int} {Z : Int → Prop} {f : Int → Ge} {C' : List Int} {L' : List Ev} (h : IsObj w b (taskL kd e x s (wGet bg)))
  (hin : Calls Tryz.prog 95 #[pt bg, pt p] w fun r w' => ∃ z, Z z ∧ r = .returned (i64 (f z).ph) ∧ GeH W w' p c C' L' bg (f z) (tTask W b kd e x s (wGet bg) :: R)) :
  Calls Tryz.prog 69 #[pt b, pt p, i64 now] w fun r w' => ∃ z, Z z ∧ r = .returned (.bool ((f z).ph != 0)) ∧ GeH W w' p c C' L' bg (f z) (tTask W b kd e x s (wGet bg) :: R) := by
 have c4 := h.task.c4
 have HC := zIt hin
 have a1 := zBw w (pt bg)
 have a2 := zBx w (pt bg)
 clear h hin
 go_enter Tryz.func69, Tryz.ntmps69
 go_wp2_with fail
 refine HC.out.mono ?_
 rintro r w1 ⟨z, hz, rfl, hH⟩
 have HH := zIt hH
 have HO := zIt hH.tover
 have HZ := zIt hz
 clear hH c4 a1 a2 hz
 go_wp2_with fail
 refine HO.out.mono ?_
 rintro r w2 ⟨rfl, rfl⟩
 go_wp2
 go_ret
 exact ⟨z, HZ.out, rfl, HH.out⟩
theorem GeH.tstep {N hz : Nat} {now : Int} (h : GeH W w p c C L bg k (tTask W b kd e x s (wGet bg) :: R)) (hk : k.Ok N hz C) (hL : L.length < 1000000000) :
  Calls Tryz.prog 69 #[pt b, pt p, i64 now] w fun r w' => ∃ z, k.ask C z ∧ r = .returned (.bool ((k.step N hz C z).ph != 0)) ∧ GeH W w' p c (k.cells N hz C) (L ++ k.ev N hz C) bg (k.step N hz C z) (tTask W b kd e x s (wGet bg) :: R) :=
 zGv h.obj (h.call hk hL)
def Ge.reply (k : Ge) : Value := if k.ph = 1 then replyV true k.val 0 0 else replyV false 0 0 0
theorem GeH.treply (h : GeH W w p c C L bg k (tTask W b kd e x s (wGet bg) :: R)) (h1 : k.ph = 1 → k.ta ≠ none) :
  Calls Tryz.prog 70 #[pt b] w fun r w' => r = .returned k.reply ∧ Below w.heap.size w w' := by
 have hh := h.later (zAA (Below.refl _ _) (.cells #[.bool false, .int .u64 0, .int .i64 0, .int .i64 0] 37))
 have ho := hh.obj
 have HH := zIt hh
 obtain ⟨v, bs, gs, bt, hh⟩ := hh
 have HF := zIt (zCu ho (hh.has 1 _ rfl))
 clear hh ho
 by_cases hp : k.ph = 1
 ·have HR : Hid (k.reply = replyV true k.val 0 0) := if_pos hp
  have q : (k.ph != 1) = false := by simp [hp]
  have H1 := zIt (h1 hp)
  clear h hp h1
  go_enter Tryz.func70, Tryz.ntmps70
  go_wp2_with fail
  refine HF.out.mono ?_
  rintro r w1 ⟨rfl, rfl⟩
  clear HF
  replace HH := zIt (HH.out.later (zAA (Below.refl _ _) (.cells #[.bool true, .int .u64 0, .int .i64 0, .int .i64 0] 37)))
  have c4 := HH.out.obj.task.c4
  have a1 := fun W => zBw W (pt bg)
  have a2 := fun W => zBx W (pt bg)
  have HV := zIt (HH.out.value k.val rfl (fun _ => H1.out))
  go_wp2_with fail
  refine HV.out.mono ?_
  rintro r w1 ⟨rfl, hb1⟩
  obtain ⟨hc, hf⟩ := bcell hb1
  clear HV c4
  go_wp2
  rw [HR.out]
  have k0 : ∀ j x, (#[Value.bool false, .int .u64 0, .int .i64 0, .int .i64 0] : Array Value)[j]? = some x → (w1.cell? ⟨w.heap.size, j, none⟩).isSome = true := fun j x hj => by
   rw [hc _ _ (by simp; omega), World.cell?_alloc_old _ _ _ (by simp), World.cell?_alloc_new, hj]
   rfl
  have k1 : (w1.cell? ⟨w.heap.size, 0, none⟩).isSome = true := k0 0 _ rfl
  have k2 : (w1.cell? ⟨w.heap.size, 1, none⟩).isSome = true := k0 1 _ rfl
  have k3 : (w1.cell? ⟨w.heap.size, 2, none⟩).isSome = true := k0 2 _ rfl
  have k4 : (w1.cell? ⟨w.heap.size, 3, none⟩).isSome = true := k0 3 _ rfl
  have hbb : Below w.heap.size w w1 := zAB (zAA (zAA (Below.refl _ _) _) _) hb1
  exact bodyPost_ret (v := replyV true k.val 0 0) (by simp [results, Tryz.results70, go_sem, k1, k2, k3, k4]) rfl ⟨rfl, zAG (zAG (zAG (zAG (zAG hbb (Nat.le_succ _) _) (Nat.le_refl _) _) (Nat.le_refl _) _) (Nat.le_refl _) _) (Nat.le_refl _) _⟩
 ·have HR : Hid (k.reply = replyV false 0 0 0) := if_neg hp
  have q : (k.ph != 1) = true := by simp [hp]
  clear h hp h1
  go_enter Tryz.func70, Tryz.ntmps70
  go_wp2_with fail
  refine HF.out.mono ?_
  rintro r w1 ⟨rfl, rfl⟩
  clear HF
  go_wp2
  rw [HR.out]
  exact bodyPost_ret (v := replyV false 0 0 0) (by simp [results, Tryz.results70, go_sem]) rfl ⟨rfl, by repeat' first | exact zAA (Below.refl _ _) _ | refine zAG ?_ (by simp) _⟩
end
section
variable {base : Nat} {w : World} {N : Nat}
theorem zDz (t s so d who e x start : Int) (hl : Lay t s N) (he : e = 0 ∨ e = 1) (hb : base ≤ w.heap.size) :
  Calls Tryz.prog 68 #[cf t s so d, i64 who, callV 1 e x start] w fun r w' => ∃ b bg bs gs, r = .returned (pt b) ∧ IsObj w' b (taskL 1 e x start (wGet bg)) ∧ IsGe base w' bg bs gs none (ge0 t s so d who e start N) ∧ Below w.heap.size w w' ∧ (∀ i, i = b ∨ GeB bg bs gs none i → w.heap.size ≤ i) ∧ ¬ GeB bg bs gs none b := by
 have HN := zIt (fun w1 hb1 => zFs base w1 N t s so d who e start hl hb1)
 have HR := zIt (fun w => zAy 1 e x start w (.inr rfl) he)
 have HF := zIt (Begun3.made w t s so d 1 e x start)
 have Hb := zIt hb
 clear he hl hb
 go_enter Tryz.func68, Tryz.ntmps68
 go_wp2_with fail
 generalize ((w.alloc (.cells #[.int .i64 t, .int .i64 s, .int .i64 so, .int .i64 d] 47)).alloc (.cells #[i64 1, i64 e, u64 x, i64 start] 33)).alloc (.cells #[i64 1, i64 e, u64 x, i64 start, .nilIface] 152) = W at HF ⊢
 refine (HR.out W).mono ?_
 rintro r w1 ⟨rfl, hb1⟩
 obtain ⟨⟨c0, c1, c2, c3⟩, hC, hT⟩ := HF.out.later hb1
 have d0 := hC.at' 0 _ rfl
 have d1 := hC.at' 1 _ rfl
 have d2 := hC.at' 3 _ rfl
 have HB := zIt (zAR HF.out.below hb1 HF.out.below.size)
 have HT := zIt hT
 clear hC hT
 go_wp2_with fail
 refine (HN.out w1 (by have := HB.out.size; have := Hb.out; omega)).mono ?_
 rintro r w2 ⟨bg, bs, gs, rfl, hP, hb2, hn⟩
 have hO := HT.out.later hb2
 have hf := hO.fz 4
 have e4 := hO.at' 4 _ rfl
 have hs1 := HF.out.size
 have hs2 := hb1.size
 have hP2 : IsGe base (w2.setCell ⟨w.heap.size + 1 + 1, 4, none⟩ (wGet bg)) bg bs gs none (ge0 t s so d who e start N) := hP.keep (T := (· = w.heap.size + 1 + 1)) ((Keep.refl _ _).own 4 _) (fun i hi h => by have := hn i hi; omega)
 have HX := zIt hP2
 have HY := zIt (hO.set 4 (wGet bg))
 have HZ : Hid (Below w.heap.size w (w2.setCell ⟨w.heap.size + 1 + 1, 4, none⟩ (wGet bg))) := zAG (zAR HB.out hb2 HB.out.size) (by show w.heap.size ≤ w.heap.size + 1 + 1; omega) _
 have HN2 : Hid ((∀ i, i = w.heap.size + 1 + 1 ∨ GeB bg bs gs none i → w.heap.size ≤ i) ∧ ¬ GeB bg bs gs none (w.heap.size + 1 + 1)) := by
  refine ⟨fun i hi => ?_, fun h => by have := hn _ h; omega⟩
  rcases hi with rfl | hi
  ·omega
  ·have := hn _ hi
   omega
 clear hP2 hO hP hn
 go_wp2_with fail
 go_ret
 exact ⟨_, bg, bs, gs, rfl, HY.out, HX.out, HZ.out, HN2.out⟩
end
end
section
theorem Hold.join {W w : World} {l : List Thing} {A B : Thing} (h1 : Hold W w (l ++ [A])) (h2 : Hold W w (l ++ [B])) (hab : ∀ q, A.F q → ¬ B.F q) : Hold W w (l ++ [A, B]) := by
 have c3 : ∀ (i : Nat) (E : Thing), (l ++ [A, B])[i]? = some E → (i < l.length ∧ l[i]? = some E) ∨ (i = l.length ∧ E = A) ∨ (i = l.length + 1 ∧ E = B) := by
  intro i E he
  rcases Nat.lt_or_ge i l.length with hi | hi
  ·rw [List.getElem?_append_left hi] at he
   exact .inl ⟨hi, he⟩
  ·rw [List.getElem?_append_right hi] at he
   rcases (by omega : i - l.length = 0 ∨ i - l.length = 1 ∨ 2 ≤ i - l.length) with h | h | h
   ·rw [h] at he
    cases he
    exact .inr (.inl ⟨by omega, rfl⟩)
   ·rw [h] at he
    cases he
    exact .inr (.inr ⟨by omega, rfl⟩)
   ·rw [List.getElem?_eq_none (by simpa using h)] at he
    cases he
 have a1 : ∀ {i : Nat} {E : Thing} {X : Thing}, i < l.length → l[i]? = some E → (l ++ [X])[i]? = some E := fun hi he => by rw [List.getElem?_append_left hi]; exact he
 have a2 : ∀ {X : Thing}, (l ++ [X])[l.length]? = some X := fun {X} => by rw [List.getElem?_append_right (Nat.le_refl _), Nat.sub_self]; rfl
 refine ⟨h1.size, h1.below, fun i E he => ?_, fun i E he => ?_, fun i j E G he hg hij q hq hq' => ?_⟩
 ·rcases c3 i E he with ⟨hi, he⟩ | ⟨rfl, rfl⟩ | ⟨rfl, rfl⟩
  ·exact h1.ok i E (a1 hi he)
  ·exact h1.ok _ _ a2
  ·exact h2.ok l.length _ a2
 ·rcases c3 i E he with ⟨hi, he⟩ | ⟨rfl, rfl⟩ | ⟨rfl, rfl⟩
  ·exact h1.has i E (a1 hi he)
  ·exact h1.has _ _ a2
  ·exact h2.has l.length _ a2
 ·rcases c3 i E he with ⟨hi, he'⟩ | ⟨rfl, rfl⟩ | ⟨rfl, rfl⟩ <;> rcases c3 j G hg with ⟨hj, hg'⟩ | ⟨rfl, rfl⟩ | ⟨rfl, rfl⟩
  ·exact h1.apart i j E G (a1 hi he') (a1 hj hg') hij q hq hq'
  ·exact h1.apart i l.length E _ (a1 hi he') a2 (by omega) q hq hq'
  ·exact h2.apart i l.length E _ (a1 hi he') a2 (by omega) q hq hq'
  ·exact h1.apart j l.length G _ (a1 hj hg') a2 (by omega) q hq' hq
  ·omega
  ·exact hab q hq hq'
  ·exact h2.apart j l.length G _ (a1 hj hg') a2 (by omega) q hq' hq
  ·exact hab q hq' hq
  ·omega
section
variable {W w w' : World} {p c b : Nat} {v : Value} {C : List Int} {L : List Ev} {R : List Thing} {kd e x s : Int}
theorem Hold.third {a b c : Thing} {R : List Thing} (h : Hold W w (a :: R ++ [b, c])) : Hold W w (a :: b :: c :: R) :=
 h.sel (fun i => if i = 0 then 0 else if i = 1 then R.length + 1 else if i = 2 then R.length + 2 else i - 2) (fun i A hi => by
  match i with
  | 0 => exact hi
  | 1 =>
   show (a :: R ++ [b, c])[R.length + 1]? = some A
   rw [List.getElem?_append_right (by simp)]
   simpa using hi
  | 2 =>
   show (a :: R ++ [b, c])[R.length + 2]? = some A
   rw [List.getElem?_append_right (by simp)]
   simpa using hi
  | i + 3 =>
   show (a :: R ++ [b, c])[i + 1]? = some A
   have hi' : R[i]? = some A := hi
   have hl : i < R.length := by
    rcases Nat.lt_or_ge i R.length with h | h
    ·exact h
    ·rw [List.getElem?_eq_none h] at hi'
     cases hi'
   rw [List.getElem?_append_left (by show i + 1 < R.length + 1; omega)]
   exact hi') (fun i j hi hj he => by
  have hi' : i < R.length + 3 := hi
  have hj' : j < R.length + 3 := hj
  split at he <;> split at he <;> (try split at he) <;> (try split at he) <;> (try split at he) <;> (try split at he) <;> omega)
theorem PuHold.tbegun {bp b1 b2 : Nat} {k : Pu} (h : Hold W w (tMem W.heap.size p c v C L :: R)) (hb : Below w.heap.size w w') (ho : IsObj w' b (taskL kd e x s (wPut bp))) (hk : IsPu w' bp b1 b2 k) (hn : ∀ i, TpB b bp b1 b2 i → w.heap.size ≤ i) (hne : ¬ PuB bp b1 b2 b) :
  PuHold W w' p c v C L bp b1 b2 k (tTask W b kd e x s (wPut bp) :: R) :=
 Hold.third (Hold.join (Hold.more h hb (zE3 W.heap.size bp b1 b2 k) ⟨hk, fun i hi => Nat.le_trans h.size (hn i (.inr hi))⟩ (fun i hi => hn i (.inr hi)))
  (Hold.more h hb (zAP W.heap.size b (taskL kd e x s (wPut bp))) ⟨ho, Nat.le_trans h.size (hn b (.inl rfl))⟩ (fun i hi => hn i (.inl hi))) (fun q hq hb => hne (by have hb' : q = b := hb; exact hb' ▸ hq)))
theorem GeH.tbegun {bg bs gs : Nat} {k : Ge} (h : Hold W w (tMem W.heap.size p c v C L :: R)) (hb : Below w.heap.size w w') (ho : IsObj w' b (taskL kd e x s (wGet bg))) (hk : IsGe W.heap.size w' bg bs gs none k) (hn : ∀ i, i = b ∨ GeB bg bs gs none i → w.heap.size ≤ i) (hne : ¬ GeB bg bs gs none b) :
  GeH W w' p c C L bg k (tTask W b kd e x s (wGet bg) :: R) :=
 ⟨v, bs, gs, none, Hold.third (Hold.join (Hold.more h hb (zEl W.heap.size bg bs gs none k) hk (fun i hi => hn i (.inr hi)))
  (Hold.more h hb (zAP W.heap.size b (taskL kd e x s (wGet bg))) ⟨ho, Nat.le_trans h.size (hn b (.inl rfl))⟩ (fun i hi => hn i (.inl hi))) (fun q hq hb => hne (by have hb' : q = b := hb; exact hb' ▸ hq)))⟩
end
def kP : Pu := pu0 1 1 0 0 0 0 7 0
def kPC : List Int := List.replicate 4 0
end
section
inductive Wk where
 | pu (k : Pu)
 | ge (k : Ge)
structure Pl where
 N : Nat
 m : Int
 nb : Nat
 h0 : Nat
 hw : Nat
def Wk.ph : Wk → Int
 | .pu k => k.ph
 | .ge k => k.ph
def Wk.step (T : Wk) (P : Pl) (C : List Int) (now z : Int) : Wk := match T with
 | .pu k => .pu (k.step P.m P.nb P.h0 C now)
 | .ge k => .ge (k.step P.N P.hw C z)
def Wk.cells (T : Wk) (P : Pl) (C : List Int) (now : Int) : List Int := match T with
 | .pu k => k.cells P.N P.nb C now
 | .ge k => k.cells P.N P.hw C
def Wk.ev (T : Wk) (P : Pl) (C : List Int) (now : Int) : List Ev := match T with
 | .pu k => k.ev P.N P.nb P.h0 C now
 | .ge k => k.ev P.N P.hw C
def Wk.ask (T : Wk) (C : List Int) (z : Int) : Prop := match T with
 | .pu _ => True
 | .ge k => k.ask C z
def Wk.Ok (T : Wk) (P : Pl) (C : List Int) : Prop := match T with
 | .pu k => k.Ok P.N P.m P.nb P.h0 C
 | .ge k => k.Ok P.N P.hw C ∧ (k.ph = 1 → k.ta ≠ none)
def Wk.reply (T : Wk) : Value := match T with
 | .pu k => k.reply
 | .ge k => k.reply
section
variable {T : Wk} {P : Pl} {C : List Int} {now z : Int}
theorem Wk.rest (h : T.ph ≠ 0) : T.step P C now z = T ∧ T.cells P C now = C ∧ T.ev P C now = [] ∧ T.ask C z := by
 cases T with
 | pu k =>
  have h' : k.ph ≠ 0 := h
  refine ⟨?_, ?_, ?_, trivial⟩
  ·show Wk.pu (k.step P.m P.nb P.h0 C now) = _
   rw [show k.step P.m P.nb P.h0 C now = k from if_pos h']
  ·exact if_pos h'
  ·exact if_pos h'
 | ge k =>
  have h' : k.ph ≠ 0 := h
  refine ⟨?_, ?_, ?_, fun h => absurd h h'⟩
  ·show Wk.ge (k.step P.N P.hw C z) = _
   rw [show k.step P.N P.hw C z = k from if_pos h']
  ·exact if_pos h'
  ·exact if_pos h'
theorem Wk.cells_len : (T.cells P C now).length = C.length := by
 cases T with
 | pu k => exact k.cells_len P.N P.nb C now
 | ge k => exact k.cells_len P.N P.hw C
theorem Wk.ev_le : (T.ev P C now).length ≤ 1 := by
 cases T with
 | pu k => exact k.ev_le P.N P.nb P.h0 C now
 | ge k => exact k.ev_le P.N P.hw C
theorem Ge.has_step {k : Ge} {N hz : Nat} (h : k.ph = 1 → k.ta ≠ none) : (k.step N hz C z).ph = 1 → (k.step N hz C z).ta ≠ none := by
 unfold Ge.step
 split
 ·exact h
 ·rename_i hp
  have hp0 : k.ph = 0 := Classical.not_not.1 hp
  split
  ·rename_i hta
   unfold Ge.read
   split
   ·intro h1
    have h1' : k.ph = 1 := h1
    omega
   ·split
    ·intro h1
     exact absurd h1 (by simp)
    ·intro _ h1
     cases h1
  ·unfold Ge.grab
   split
   ·intro _ h1
    cases h1
   ·split
    ·intro h1
     have h1' : k.ph = 1 := h1
     omega
    ·intro _ h1
     cases h1
end
def TsH (W w : World) (p c : Nat) (C : List Int) (L : List Ev) (b : Nat) (kd e x s : Int) (T : Wk) (R : List Thing) : Prop := match T with
 | .pu k => ∃ v bp b1 b2, PuHold W w p c v C L bp b1 b2 k (tTask W b kd e x s (wPut bp) :: R)
 | .ge k => ∃ bg, GeH W w p c C L bg k (tTask W b kd e x s (wGet bg) :: R)
section
variable {W w w' : World} {p c b : Nat} {C : List Int} {L : List Ev} {T : Wk} {R : List Thing} {kd e x s : Int}
theorem TsH.later (h : TsH W w p c C L b kd e x s T R) (k : Below w.heap.size w w') : TsH W w' p c C L b kd e x s T R := by
 cases T with
 | pu k' =>
  obtain ⟨v, bp, b1, b2, h⟩ := h
  exact ⟨v, bp, b1, b2, h.later k⟩
 | ge k' =>
  obtain ⟨bg, h⟩ := h
  exact ⟨bg, h.later k⟩
theorem TsH.drew (h : TsH W w p c C L b kd e x s T R) : TsH W w.drew p c C L b kd e x s T R := h.later (Below.refl _ _).drew
theorem TsH.below (h : TsH W w p c C L b kd e x s T R) : Below W.heap.size W w := by
 cases T with
 | pu k' =>
  obtain ⟨v, bp, b1, b2, h⟩ := h
  exact h.below
 | ge k' =>
  obtain ⟨bg, h⟩ := h
  exact h.below
theorem TsH.size (h : TsH W w p c C L b kd e x s T R) : W.heap.size ≤ w.heap.size := h.below.size
theorem TsH.mem (h : TsH W w p c C L b kd e x s T R) : ∃ v, IsMem W.heap.size w p c v C L := by
 cases T with
 | pu k' =>
  obtain ⟨v, bp, b1, b2, h⟩ := h
  exact ⟨v, h.mem⟩
 | ge k' =>
  obtain ⟨bg, h⟩ := h
  exact h.mem
theorem TsH.fit (h : TsH W w p c C L b kd e x s T R) : ∀ j, 0 ≤ C.getD j 0 ∧ C.getD j 0 ≤ 18446744073709551615 := by
 obtain ⟨v, h⟩ := h.mem
 exact h.fit
theorem TsH.over (h : TsH W w p c C L b kd e x s T R) : Calls Tryz.prog 96 #[pt b] w fun r w' => r = .returned (.bool (T.ph != 0)) ∧ Below w.heap.size w w' := by
 cases T with
 | pu k' =>
  obtain ⟨v, bp, b1, b2, h⟩ := h
  exact zBJ (zCG h.obj h.pu)
 | ge k' =>
  obtain ⟨bg, h⟩ := h
  exact zBJ h.tover
theorem TsH.obj (h : TsH W w p c C L b kd e x s T R) : ∃ wk, IsObj w b (taskL kd e x s wk) := by
 cases T with
 | pu k' =>
  obtain ⟨v, bp, b1, b2, h⟩ := h
  exact ⟨_, h.obj⟩
 | ge k' =>
  obtain ⟨bg, h⟩ := h
  exact ⟨_, h.obj⟩
theorem TsH.reply {P : Pl} (h : TsH W w p c C L b kd e x s T R) (hk : T.Ok P C) : Calls Tryz.prog 70 #[pt b] w fun r w' => r = .returned T.reply ∧ Below w.heap.size w w' := by
 cases T with
 | pu k' =>
  obtain ⟨v, bp, b1, b2, h⟩ := h
  exact h.treply
 | ge k' =>
  obtain ⟨bg, h⟩ := h
  exact h.treply hk.2
theorem TsH.step {P : Pl} {now : Int} (h : TsH W w p c C L b kd e x s T R) (hk : T.Ok P C) (n0 : 0 ≤ now) (hL : L.length < 1000000000) :
  Calls Tryz.prog 69 #[pt b, pt p, i64 now] w fun r w' => ∃ z, T.ask C z ∧ r = .returned (.bool ((T.step P C now z).ph != 0)) ∧ TsH W w' p c (T.cells P C now) (L ++ T.ev P C now) b kd e x s (T.step P C now z) R := by
 cases T with
 | pu k' =>
  obtain ⟨v, bp, b1, b2, h⟩ := h
  refine (h.tstep hk n0 hL).mono ?_
  rintro r w' ⟨h1, v', h2⟩
  exact ⟨0, trivial, h1, v', bp, b1, b2, h2⟩
 | ge k' =>
  obtain ⟨bg, h⟩ := h
  refine (h.tstep hk.1 hL).mono ?_
  rintro r w' ⟨z, h0, h1, h2⟩
  exact ⟨z, h0, h1, bg, h2⟩
end
def wk0 (t s so d who : Int) (take : Bool) (e x start m : Int) (N : Nat) : Wk := if take then .ge (ge0 t s so d who e start N) else .pu (pu0 t s so d who e x m)
abbrev kdI (take : Bool) : Int := if take then 1 else 0
theorem TsH.begun {W w : World} {p c : Nat} {v : Value} {C : List Int} {L : List Ev} {R : List Thing} {t s so d who e x start m : Int} {N : Nat} (take : Bool) {kd : Int} (hk : kdI take = kd) (h : Hold W w (tMem W.heap.size p c v C L :: R)) (hl : Lay t s N) (w0 : 0 ≤ who) (w1 : who < t) (hm : who * s = m) (m0 : 0 ≤ m) (m1 : m + s ≤ N) (he : e = 0 ∨ e = 1) :
  Calls Tryz.prog 68 #[cf t s so d, i64 who, callV kd e x start] w fun r w' => ∃ b, r = .returned (pt b) ∧ TsH W w' p c C L b kd e x start (wk0 t s so d who take e x start m N) R := by
 subst hk
 cases take with
 | false =>
  refine (zDm t s so d who e x start m hl w0 w1 hm m0 m1 he).mono ?_
  rintro r w' ⟨b, bp, b1, b2, h1, h2, h3, h4, h5, h6⟩
  exact ⟨b, h1, v, bp, b1, b2, PuHold.tbegun h h4 h2 h3 h5 h6⟩
 | true =>
  refine (zDz (base := W.heap.size) t s so d who e x start hl he h.size).mono ?_
  rintro r w' ⟨b, bg, bs, gs, h1, h2, h3, h4, h5, h6⟩
  exact ⟨b, h1, bg, GeH.tbegun h h4 h2 h3 h5 h6⟩
def Wk.take : Wk → Bool
 | .pu _ => false
 | .ge _ => true
theorem Wk.take_step {T : Wk} {P : Pl} {C : List Int} {now z : Int} : (T.step P C now z).take = T.take := by
 cases T <;> rfl
section
variable {W w w' : World} {p c b : Nat} {C : List Int} {L : List Ev} {T : Wk} {R : List Thing} {kd e x s : Int} {A : Thing}
theorem TsH.more (h : TsH W w p c C L b kd e x s T R) (k : Below w.heap.size w w') (ok : A.Ok W.heap.size) (hP : A.P w') (hF : ∀ q, A.F q → w.heap.size ≤ q) : TsH W w' p c C L b kd e x s T (R ++ [A]) := by
 cases T with
 | pu k' =>
  obtain ⟨v, bp, b1, b2, h⟩ := h
  exact ⟨v, bp, b1, b2, Hold.more (l := _ :: _ :: _ :: R) h k ok hP hF⟩
 | ge k' =>
  obtain ⟨bg, v, bs, gs, bt, h⟩ := h
  exact ⟨bg, v, bs, gs, bt, Hold.more (l := _ :: _ :: _ :: R) h k ok hP hF⟩
theorem TsH.at (h : TsH W w p c C L b kd e x s T R) (i : Nat) (hi : R[i]? = some A) : A.P w := by
 cases T with
 | pu k' =>
  obtain ⟨v, bp, b1, b2, h⟩ := h
  exact Hold.has h (i + 3) A hi
 | ge k' =>
  obtain ⟨bg, v, bs, gs, bt, h⟩ := h
  exact Hold.has h (i + 3) A hi
end
def TsA (T : Wk) (P : Pl) (C C0 : List Int) (n : Nat) (e : Int) : Prop := match T with
 | .pu k => k.Ok P.N P.m P.nb P.h0 C ∧ (k.ph = 0 → (n : Int) + k.rem P.m ≤ 27)
 | .ge k => GX k C C0 P.N P.hw n e ∧ (k.ph = 1 → k.ta ≠ none)
section
variable {T : Wk} {P : Pl} {C C0 : List Int} {n : Nat} {e now z : Int}
theorem TsA.ok (h : TsA T P C C0 n e) : T.Ok P C := by
 cases T with
 | pu k => exact h.1
 | ge k => exact ⟨h.1.ok, h.2⟩
theorem TsA.step (h : TsA T P C C0 n e) (ha : T.ask C z) (n0 : 0 ≤ now) (hf : ∀ j, 0 ≤ C.getD j 0 ∧ C.getD j 0 ≤ 18446744073709551615) : TsA (T.step P C now z) P (T.cells P C now) C0 (n + 1) e := by
 cases T with
 | pu k =>
  have h1 : k.Ok P.N P.m P.nb P.h0 C := h.1
  have h2 : k.ph = 0 → (n : Int) + k.rem P.m ≤ 27 := h.2
  obtain ⟨o1, o2⟩ := h1.next_ (now := now) n0 (fun j => (hf j).1)
  refine ⟨o1.cells (k.cells_len _ _ _ _), fun hp => ?_⟩
  have hp' : (k.step P.m P.nb P.h0 C now).ph = 0 := hp
  have hk : k.ph = 0 := by
   by_cases hk : k.ph = 0
   ·exact hk
   ·rw [show k.step P.m P.nb P.h0 C now = k from if_pos hk] at hp'
    exact absurd hp' hk
  have := o2 hk
  have := h2 hk
  show ((n + 1 : Nat) : Int) + (k.step P.m P.nb P.h0 C now).rem P.m ≤ 27
  omega
 | ge k => exact ⟨GX.step h.1 ha hf, Ge.has_step h.2⟩
theorem TsA.over (h : TsA T P C C0 n e) (hN : P.N ≤ 16) (hn : 40 ≤ n) : T.ph ≠ 0 := by
 cases T with
 | pu k =>
  intro hp
  have h1 : k.Ok P.N P.m P.nb P.h0 C := h.1
  have h2 := h.2 hp
  have := Pu.rem_pos h1 hp
  omega
 | ge k =>
  show k.ph ≠ 0
  rcases h.1.done (by omega) with ⟨h1, _⟩ | ⟨j, h1, _⟩ <;> omega
end
theorem zDB {a : Int} (h : (Lit.int .u64 a).wf = true) : 0 ≤ a ∧ a ≤ 18446744073709551615 := by
 simp only [Lit.wf, Bool.and_eq_true, decide_eq_true_eq] at h
 exact h
theorem TsH.rest {W w : World} {p c b : Nat} {C : List Int} {L : List Ev} {T : Wk} {R : List Thing} {kd e x s : Int} {P : Pl} {now : Int} (h : TsH W w p c C L b kd e x s T R) (hk : T.Ok P C) (n0 : 0 ≤ now) (hL : L.length < 1000000000) (hp : T.ph ≠ 0) :
  Calls Tryz.prog 69 #[pt b, pt p, i64 now] w fun r w' => r = .returned (.bool true) ∧ TsH W w' p c C L b kd e x s T R := by
 refine (h.step hk n0 hL).mono ?_
 rintro r w' ⟨z, _, h1, h2⟩
 obtain ⟨r1, r2, r3, _⟩ := Wk.rest (P := P) (C := C) (now := now) (z := z) hp
 rw [r1] at h1 h2
 rw [r2, r3, List.append_nil] at h2
 exact ⟨by rw [h1, show (T.ph != 0) = true by simp [hp]], h2⟩
theorem TsA.start {t s so d who e x start m : Int} {N nb h0 hw : Nat} {C : List Int} (take : Bool) (hl : Lay t s N) (hlen : (C.length : Int) = 2 * N + 2 * t) (t4 : t ≤ 4) (s4 : s ≤ 4) (hh0 : (h0 : Int) = 2 * N) (hhw : (hw : Int) = 2 * N + who) (hnb : (nb : Int) = 2 * N + t) (w0 : 0 ≤ who) (w1 : who < t) (hm : who * s = m) (m0 : 0 ≤ m) (m1 : m + s ≤ N)
  (o0 : 0 ≤ so) (o1 : so ≤ 4) (d0 : 0 ≤ d) (d1 : d ≤ 3) (he : e = 0 ∨ e = 1) (x0 : 0 ≤ x) (x1 : x ≤ 18446744073709551615) : TsA (wk0 t s so d who take e x start m N) ⟨N, m, nb, h0, hw⟩ C C 0 e := by
 cases take with
 | false =>
  refine ⟨zH0 (nb := nb) hl hh0 hnb (by omega) w0 w1 hm m0 m1 o0 o1 d0 (by omega) (by omega) (by omega) x0 x1, fun _ => ?_⟩
  show ((0 : Nat) : Int) + (pu0 t s so d who e x m).rem m ≤ 27
  rw [zGR]
  obtain ⟨Q, q, h1, h2, h3, h4, h5, h6⟩ := zHg (so := so) hl.t1 t4 hl.s1 s4 d0 d1
  omega
 | true => exact ⟨GX.start hl hlen hhw w0 w1 he, fun h => by exact absurd h (by show ¬ (0 : Int) = 1; decide)⟩
end
section
inductive TB where
 | pu (bp b1 b2 : Nat)
 | ge (bg bs gs : Nat) (bt : Option Nat)
def TB.F (B : TB) (i : Nat) : Prop := match B with
 | .pu bp b1 b2 => PuB bp b1 b2 i
 | .ge bg bs gs bt => GeB bg bs gs bt i
def TB.wk (B : TB) : Value := match B with
 | .pu bp _ _ => wPut bp
 | .ge bg _ _ _ => wGet bg
def isMa (base : Nat) (w : World) (B : TB) (T : Wk) : Prop := match B, T with
 | .pu bp b1 b2, .pu k => IsPu w bp b1 b2 k ∧ ∀ i, PuB bp b1 b2 i → base ≤ i
 | .ge bg bs gs bt, .ge k => IsGe base w bg bs gs bt k
 | .pu _ _ _, .ge _ => False
 | .ge _ _ _ _, .pu _ => False
structure WT where
 b : Nat
 B : TB
 kd : Int
 e : Int
 x : Int
 s : Int
 T : Wk
def wT (base : Nat) (y : WT) : Thing := ⟨fun w => IsObj w y.b (taskL y.kd y.e y.x y.s y.B.wk) ∧ base ≤ y.b ∧ ¬ y.B.F y.b ∧ isMa base w y.B y.T, fun i => i = y.b ∨ y.B.F i⟩
section
variable {base : Nat} {w w' : World} {B : TB} {T : Wk} {y : WT}
theorem isMa.keep {Q : Nat → Prop} (h : isMa base w B T) (e : Keep Q w w') (hn : ∀ i, B.F i → ¬ Q i) : isMa base w' B T := by
 cases B with
 | pu bp b1 b2 =>
  cases T with
  | pu k => exact ⟨h.1.keep e (hn _ (.inl rfl)) (hn _ (.inr (.inl rfl))) (hn _ (.inr (.inr rfl))), h.2⟩
  | ge k => exact h.elim
 | ge bg bs gs bt =>
  cases T with
  | pu k => exact h.elim
  | ge k => exact IsGe.keep h e hn
theorem isMa.lt (h : isMa base w B T) : ∀ i, B.F i → base ≤ i ∧ i < w.heap.size := by
 cases B with
 | pu bp b1 b2 =>
  cases T with
  | pu k => exact fun i hi => ⟨h.2 i hi, h.1.lt i hi⟩
  | ge k => exact h.elim
 | ge bg bs gs bt =>
  cases T with
  | pu k => exact h.elim
  | ge k => exact fun i hi => IsGe.lt h i hi
theorem wT_ok (base : Nat) (y : WT) : (wT base y).Ok base :=
 ⟨fun _ _ _ h e hn => ⟨h.1.keep e (hn y.b (.inl rfl)), h.2.1, h.2.2.1, h.2.2.2.keep e (fun i hi => hn i (.inr hi))⟩, fun _ i h hi => by
  rcases hi with rfl | hi
  ·exact ⟨h.2.1, h.1.lt⟩
  ·exact h.2.2.2.lt i hi⟩
end
section
variable {W w w' : World} {l : List Thing} {p c : Nat} {v : Value} {C : List Int} {L : List Ev} {y : WT}
theorem Hold.task (h : Hold W w l) (i j : Nat) (hne : i ≠ j) (hi : l[i]? = some (tMem W.heap.size p c v C L)) (hj : l[j]? = some (wT W.heap.size y)) : TsH W w p c C L y.b y.kd y.e y.x y.s y.T [] := by
 obtain ⟨b, B, kd, e, x, s, T⟩ := y
 have hm := h.has i _ hi
 obtain ⟨h1, h2, h3, h4⟩ := h.has j _ hj
 have hap := h.apart i j _ _ hi hj hne
 have three : ∀ {A : Thing}, A.Ok W.heap.size → A.P w → (∀ q, A.F q ↔ B.F q) → Hold W w [tMem W.heap.size p c v C L, A, tTask W b kd e x s B.wk] := fun {A} ok hP hF =>
  ⟨h.size, h.below, fun i E he => by
   match i with
   | 0 => cases he; exact zA5 _ _ _ _ _ _
   | 1 => cases he; exact ok
   | 2 => cases he; exact zAP _ _ _
   | i + 3 => simp at he, fun i E he => by
   match i with
   | 0 => cases he; exact hm
   | 1 => cases he; exact hP
   | 2 => cases he; exact ⟨h1, h2⟩
   | i + 3 => simp at he, fun i j E G he hg hij q hq hq' => by
   have a1 : ∀ q, Foot p c v q → ¬ (q = b ∨ B.F q) := hap
   match i, j with
   | 0, 0 => exact hij rfl
   | 1, 1 => exact hij rfl
   | 2, 2 => exact hij rfl
   | 0, 1 => cases he; cases hg; exact a1 q hq (.inr ((hF q).1 hq'))
   | 0, 2 => cases he; cases hg; exact a1 q hq (.inl hq')
   | 1, 0 => cases he; cases hg; exact a1 q hq' (.inr ((hF q).1 hq))
   | 2, 0 => cases he; cases hg; exact a1 q hq' (.inl hq)
   | 1, 2 => cases he; cases hg; have hq2 : q = b := hq'; exact h3 (hq2 ▸ (hF q).1 hq)
   | 2, 1 => cases he; cases hg; have hq2 : q = b := hq; exact h3 (hq2 ▸ (hF q).1 hq')
   | i + 3, _ => simp at he
   | _, j + 3 => simp at hg⟩
 cases B with
 | pu bp b1 b2 =>
  cases T with
  | pu k => exact ⟨v, bp, b1, b2, three (zE3 W.heap.size bp b1 b2 k) h4 (fun q => Iff.rfl)⟩
  | ge k => exact h4.elim
 | ge bg bs gs bt =>
  cases T with
  | pu k => exact h4.elim
  | ge k => exact ⟨bg, v, bs, gs, bt, three (zEl W.heap.size bg bs gs bt k) h4 (fun q => Iff.rfl)⟩
theorem zFJ {Q : World → Prop} {b bp b1 b2 : Nat} {kd e x s now : Int} {k' : Pu} (h : IsObj w b (taskL kd e x s (wPut bp)))
  (hq : ∀ w', Q w' → IsObj w' b (taskL kd e x s (wPut bp)) ∧ IsPu w' bp b1 b2 k')
  (hin : Calls Tryz.prog 94 #[pt bp, pt p, i64 now] w fun r w' => r = .returned (i64 k'.ph) ∧ Q w') :
  Calls Tryz.prog 69 #[pt b, pt p, i64 now] w fun r w' => r = .returned (.bool (k'.ph != 0)) ∧ Q w' := by
 have c4 := h.task.c4
 have HC := zIt hin
 have HQ := zIt hq
 have a1 := zBt w (pt bp)
 clear h hin hq
 go_enter Tryz.func69, Tryz.ntmps69
 go_wp2_with fail
 refine HC.out.mono ?_
 rintro r w1 ⟨rfl, hH⟩
 have HO := zIt (zCG (HQ.out _ hH).1 (HQ.out _ hH).2)
 have HH := zIt hH
 clear hH c4 a1
 go_wp2_with fail
 refine HO.out.mono ?_
 rintro r w2 ⟨rfl, rfl⟩
 go_wp2
 go_ret
 exact ⟨rfl, HH.out⟩
theorem zFl {Q : Int → World → Prop} {f : Int → Ge} {b bg : Nat} {kd e x s now : Int} (h : IsObj w b (taskL kd e x s (wGet bg)))
  (hq : ∀ z w', Q z w' → IsObj w' b (taskL kd e x s (wGet bg)) ∧ ∃ base bs gs bt, IsGe base w' bg bs gs bt (f z))
  (hin : Calls Tryz.prog 95 #[pt bg, pt p] w fun r w' => ∃ z, r = .returned (i64 (f z).ph) ∧ Q z w') :
  Calls Tryz.prog 69 #[pt b, pt p, i64 now] w fun r w' => ∃ z, r = .returned (.bool ((f z).ph != 0)) ∧ Q z w' := by
 have c4 := h.task.c4
 have HC := zIt hin
 have HQ := zIt hq
 have a1 := zBw w (pt bg)
 have a2 := zBx w (pt bg)
 clear h hin hq
 go_enter Tryz.func69, Tryz.ntmps69
 go_wp2_with fail
 refine HC.out.mono ?_
 rintro r w1 ⟨z, rfl, hH⟩
 obtain ⟨g1, base, bs, gs, bt, g2⟩ := HQ.out z _ hH
 have HO := zIt (zD0 g1 g2)
 have HH := zIt hH
 clear hH c4 a1 a2 g1 g2
 go_wp2_with fail
 refine HO.out.mono ?_
 rintro r w2 ⟨rfl, rfl⟩
 go_wp2
 go_ret
 exact ⟨z, rfl, HH.out⟩
theorem Hold.tstep {P : Pl} {now : Int} (h : Hold W w l) (i j : Nat) (hne : i ≠ j) (hi : l[i]? = some (tMem W.heap.size p c v C L)) (hj : l[j]? = some (wT W.heap.size y)) (hk : y.T.Ok P C) (n0 : 0 ≤ now) (hL : L.length < 1000000000) :
  Calls Tryz.prog 69 #[pt y.b, pt p, i64 now] w fun r w' => ∃ z, y.T.ask C z ∧ r = .returned (.bool ((y.T.step P C now z).ph != 0)) ∧ ∃ v' B', Hold W w' ((l.set i (tMem W.heap.size p c v' (y.T.cells P C now) (L ++ y.T.ev P C now))).set j (wT W.heap.size ⟨y.b, B', y.kd, y.e, y.x, y.s, y.T.step P C now z⟩)) := by
 obtain ⟨b, B, kd, e, x, s, T⟩ := y
 have hm := h.has i _ hi
 obtain ⟨h1, h2, h3, h4⟩ := h.has j _ hj
 have hap := Hold.free h i j hne hi hj
 have hlj : ∀ {l' : List Thing}, l'.length = l.length → j < l'.length := fun e => by rw [e]; exact (List.getElem?_eq_some_iff.1 hj).1
 cases B with
 | pu bp b1 b2 =>
  cases T with
  | ge k => exact h4.elim
  | pu k =>
   have hin := zDG W.heap.size w bp b1 b2 p c v C L k P.N P.m P.nb P.h0 now hk n0 h4.1 hm (fun q hq => hap q (.inr hq)) h.size hL
   refine (zFJ (k' := k.step P.m P.nb P.h0 C now) (Q := fun w' => ∃ v', Hold W w' ((l.set i (tMem W.heap.size p c v' (k.cells P.N P.nb C now) (L ++ k.ev P.N P.nb P.h0 C now))).set j (wT W.heap.size ⟨b, .pu bp b1 b2, kd, e, x, s, .pu (k.step P.m P.nb P.h0 C now)⟩))) (b1 := b1) (b2 := b2) h1 (fun w' hq => ?_) (hin.mono ?_)).mono ?_
   ·obtain ⟨v', hh⟩ := hq
    have h5 := hh.has j _ (List.getElem?_set_self (hlj (by rw [List.length_set])))
    exact ⟨h5.1, h5.2.2.2.1⟩
   ·rintro r w' ⟨g1, v', hD, hO⟩
    refine ⟨g1, v', ?_⟩
    refine h.turn2 i j hne hi hj (hD.keep.mono (fun q hq => ?_)) (zA5 _ _ _ _ _ _) (wT_ok _ _) hD.mem ⟨h1.keep hD.keep (fun hq => ?_), h2, h3, hO, h4.2⟩ (fun q hq => ?_) (fun q hq => hq)
    ·rcases hq with hq | hq
     ·exact .inl (.inr hq)
     ·exact .inr hq
    ·rcases hq with hq | hq
     ·exact h3 hq
     ·exact hap b (.inl rfl) hq
    ·rcases hq with h1 | h1 | h1
     ·exact .inl (.inl h1)
     ·exact .inl (.inr (.inl h1))
     ·exact (hD.moved q h1).imp (fun h => .inr (.inr h)) id
   ·rintro r w' ⟨g1, v', g2⟩
    exact ⟨0, trivial, g1, v', _, g2⟩
 | ge bg bs gs bt =>
  cases T with
  | pu k => exact h4.elim
  | ge k =>
   have hin := zC3 W.heap.size w bg bs gs p c bt v C L k P.N P.hw hk.1 h4 hm (fun q hq => hap q (.inr hq)) h.size hL
   refine (zFl (f := fun z => k.step P.N P.hw C z) (Q := fun z w' => k.ask C z ∧ ∃ v' bs' gs' bt', Hold W w' ((l.set i (tMem W.heap.size p c v' (k.cells P.N P.hw C) (L ++ k.ev P.N P.hw C))).set j (wT W.heap.size ⟨b, .ge bg bs' gs' bt', kd, e, x, s, .ge (k.step P.N P.hw C z)⟩))) h1 (fun z w' hq => ?_) (hin.mono ?_)).mono ?_
   ·obtain ⟨_, v', bs', gs', bt', hh⟩ := hq
    have h5 := hh.has j _ (List.getElem?_set_self (hlj (by rw [List.length_set])))
    exact ⟨h5.1, _, _, _, _, h5.2.2.2⟩
   ·rintro r w' ⟨z, g0, g1, v', bs', gs', bt', hD, hG, hF, hA⟩
    refine ⟨z, g1, g0, v', bs', gs', bt', ?_⟩
    have hbw : b < w.heap.size := h1.lt
    refine h.turn3 i j hne hi hj (hD.keep.mono (fun q hq => ?_)) (zA5 _ _ _ _ _ _) (wT_ok _ _) hD.mem ⟨h1.keep hD.keep (fun hq => ?_), h2, (fun hq => ?_), hG⟩ (fun q hq => ?_) (fun q hq => ?_) (fun q hq hg => ?_)
    ·rcases hq with hq | hq
     ·exact .inl (.inr hq)
     ·exact .inr hq
    ·rcases hq with hq | hq
     ·exact h3 hq
     ·exact hap b (.inl rfl) hq
    ·rcases hF b hq with hq | hq
     ·exact h3 hq
     ·omega
    ·rcases hq with h1 | h1 | h1
     ·exact .inl (.inl h1)
     ·exact .inl (.inr (.inl h1))
     ·exact (hD.moved q h1).imp (fun h => .inr (.inr h)) id
    ·rcases hq with hq | hq
     ·exact .inl (.inl hq)
     ·exact (hF q hq).imp (fun h => .inr h) id
    ·rcases hg with hg | hg
     ·have hgb : q = b := hg
      rw [hgb] at hq
      rcases hq with h1 | h1 | h1
      ·exact hap b (.inl rfl) (.inl h1)
      ·exact hap b (.inl rfl) (.inr (.inl h1))
      ·rcases hD.moved b h1 with h | h
       ·exact hap b (.inl rfl) (.inr (.inr h))
       ·omega
     ·exact hA q hg hq
   ·rintro r w' ⟨z, g1, g0, v', bs', gs', bt', g2⟩
    exact ⟨z, g0, g1, v', _, g2⟩
theorem Hold.tnew {t s so d who e x start m : Int} {N : Nat} (take : Bool) {kd : Int} (hk : kdI take = kd) (h : Hold W w l) (hl : Lay t s N) (w0 : 0 ≤ who) (w1 : who < t) (hm : who * s = m) (m0 : 0 ≤ m) (m1 : m + s ≤ N) (he : e = 0 ∨ e = 1) :
  Calls Tryz.prog 68 #[cf t s so d, i64 who, callV kd e x start] w fun r w' => ∃ b B, r = .returned (pt b) ∧ Hold W w' (l ++ [wT W.heap.size ⟨b, B, kd, e, x, start, wk0 t s so d who take e x start m N⟩]) ∧ Below w.heap.size w w' ∧ w.heap.size ≤ b := by
 subst hk
 cases take with
 | false =>
  refine (zDm t s so d who e x start m hl w0 w1 hm m0 m1 he).mono ?_
  rintro r w' ⟨b, bp, b1, b2, h1, h2, h3, h4, h5, h6⟩
  refine ⟨b, .pu bp b1 b2, h1, h.more h4 (wT_ok _ _) ⟨h2, Nat.le_trans h.size (h5 b (.inl rfl)), h6, h3, fun i hi => Nat.le_trans h.size (h5 i (.inr hi))⟩ (fun q hq => ?_), h4, h5 b (.inl rfl)⟩
  exact h5 q hq
 | true =>
  refine (zDz (base := W.heap.size) t s so d who e x start hl he h.size).mono ?_
  rintro r w' ⟨b, bg, bs, gs, h1, h2, h3, h4, h5, h6⟩
  refine ⟨b, .ge bg bs gs none, h1, h.more h4 (wT_ok _ _) ⟨h2, Nat.le_trans h.size (h5 b (.inl rfl)), h6, h3⟩ (fun q hq => ?_), h4, h5 b (.inl rfl)⟩
  exact h5 q hq
end
def Wk.few (T : Wk) (n : Nat) : Prop := match T with
 | .pu _ => True
 | .ge k => k.sn.passes ≤ n ∧ k.tries ≤ n
section
variable {T : Wk} {P : Pl} {C C' : List Int} {n n' : Nat} {now z : Int}
theorem Wk.Ok.cells (h : T.Ok P C) (e : C'.length = C.length) : T.Ok P C' := by
 cases T with
 | pu k => exact Pu.Ok.cells h e
 | ge k => exact ⟨Ge.Ok.cells h.1 e, h.2⟩
theorem Wk.few.mono (h : T.few n) (hn : n ≤ n') : T.few n' := by
 cases T with
 | pu k => exact trivial
 | ge k =>
  have h1 : k.sn.passes ≤ n ∧ k.tries ≤ n := h
  exact ⟨by have := h1.1; omega, by have := h1.2; omega⟩
theorem Wk.Ok.next (h : T.Ok P C) (hb : T.few n) (hn : n < 1000000) (ha : T.ask C z) (n0 : 0 ≤ now) (hf : ∀ j, 0 ≤ C.getD j 0 ∧ C.getD j 0 ≤ 18446744073709551615) : (T.step P C now z).Ok P (T.cells P C now) ∧ (T.step P C now z).few (n + 1) := by
 cases T with
 | pu k =>
  have h1 : k.Ok P.N P.m P.nb P.h0 C := h
  exact ⟨(h1.next_ (now := now) n0 (fun j => (hf j).1)).1.cells (k.cells_len _ _ _ _), trivial⟩
 | ge k =>
  have h1 : k.sn.passes ≤ n ∧ k.tries ≤ n := hb
  obtain ⟨o1, o2, o3, o4⟩ := h.1.next (z := z) ha (fun a => by have := h1.1; omega) (by have := h1.2; omega) hf
  refine ⟨⟨o1, Ge.has_step h.2⟩, ?_, ?_⟩
  ·show (k.step P.N P.hw C z).sn.passes ≤ ((n + 1 : Nat) : Int)
   have := h1.1
   omega
  ·show (k.step P.N P.hw C z).tries ≤ ((n + 1 : Nat) : Int)
   have := h1.2
   omega
end
theorem zH3 {t s so d who e x start m : Int} {N nb h0 hw : Nat} {C : List Int} (take : Bool) (hl : Lay t s N) (hlen : (C.length : Int) = 2 * N + 2 * t) (hh0 : (h0 : Int) = 2 * N) (hhw : (hw : Int) = 2 * N + who) (hnb : (nb : Int) = 2 * N + t) (w0 : 0 ≤ who) (w1 : who < t) (hm : who * s = m) (m0 : 0 ≤ m) (m1 : m + s ≤ N)
  (o0 : 0 ≤ so) (o1 : so ≤ 4) (d0 : 0 ≤ d) (d1 : d ≤ 100) (he : e = 0 ∨ e = 1) (x0 : 0 ≤ x) (x1 : x ≤ 18446744073709551615) : (wk0 t s so d who take e x start m N).Ok ⟨N, m, nb, h0, hw⟩ C ∧ (wk0 t s so d who take e x start m N).few 0 := by
 have t1 := hl.t1
 cases take with
 | false => exact ⟨zH0 (nb := nb) hl hh0 hnb (by omega) w0 w1 hm m0 m1 o0 o1 d0 d1 (by omega) (by omega) x0 x1, trivial⟩
 | true => exact ⟨⟨zH4 hl hlen hhw w0 w1 he, fun h => by exact absurd h (by show ¬ (0 : Int) = 1; decide)⟩, Int.le_refl _, Int.le_refl _⟩
end
section
structure Note1 (who : Int) (C C' : List Int) (e : Ev) : Prop where
 who' : e.who = who
 op0 : 0 ≤ e.op
 op1 : e.op ≤ 3
 c0 : 0 ≤ e.cell
 c1 : e.cell < C.length
 old : e.old = C.getD e.cell.toNat 0
 ok : e.op ≠ 2 → e.ok = true
 new : e.op = 0 ∨ e.ok = false → e.new = C.getD e.cell.toNat 0
 cells : C' = C.set e.cell.toNat e.new
def Noted (who : Int) (C C' : List Int) (E : List Ev) : Prop := (E = [] ∧ C' = C) ∨ ∃ e, E = [e] ∧ Note1 who C C' e
section
variable {who x old : Int} {C : List Int} {i : Nat}
theorem zDI {C : List Int} {i : Nat} (hi : i < C.length) : C.set i (C.getD i 0) = C := by
 refine List.ext_getElem? (fun j => ?_)
 rw [List.getElem?_set]
 split
 ·rename_i h
  subst h
  rw [List.getD_eq_getElem?_getD, List.getElem?_eq_getElem hi]
  rfl
 ·rfl
theorem zAh (hi : i < C.length) : Noted who C C [⟨who, 0, (i : Nat), C.getD i 0, C.getD i 0, true⟩] :=
 .inr ⟨_, rfl, rfl, Int.le_refl _, by show (0 : Int) ≤ 3; decide, by show (0 : Int) ≤ (i : Int); omega, by show (i : Int) < C.length; omega, by show _ = C.getD (i : Int).toNat 0; rw [Int.toNat_natCast], fun _ => rfl, fun _ => by show _ = C.getD (i : Int).toNat 0; rw [Int.toNat_natCast], by show C = C.set (i : Int).toNat _; rw [Int.toNat_natCast]; exact (zDI hi).symm⟩
theorem zA4 (hi : i < C.length) : Noted who C (C.set i x) [⟨who, 1, (i : Nat), C.getD i 0, x, true⟩] :=
 .inr ⟨_, rfl, rfl, by show (0 : Int) ≤ 1; decide, by show (1 : Int) ≤ 3; decide, by show (0 : Int) ≤ (i : Int); omega, by show (i : Int) < C.length; omega, by show _ = C.getD (i : Int).toNat 0; rw [Int.toNat_natCast], fun _ => rfl, fun h => by rcases h with h | h <;> exact absurd h (by simp), by show _ = C.set (i : Int).toNat _; rw [Int.toNat_natCast]⟩
theorem zGS (hi : i < C.length) : Noted who C (C.set i x) [⟨who, 3, (i : Nat), C.getD i 0, x, true⟩] :=
 .inr ⟨_, rfl, rfl, by show (0 : Int) ≤ 3; decide, Int.le_refl _, by show (0 : Int) ≤ (i : Int); omega, by show (i : Int) < C.length; omega, by show _ = C.getD (i : Int).toNat 0; rw [Int.toNat_natCast], fun _ => rfl, fun h => by rcases h with h | h <;> exact absurd h (by simp), by show _ = C.set (i : Int).toNat _; rw [Int.toNat_natCast]⟩
theorem zC5 (hi : i < C.length) (ho : C.getD i 0 = old) : Noted who C (C.set i x) [⟨who, 2, (i : Nat), old, x, true⟩] :=
 .inr ⟨_, rfl, rfl, by show (0 : Int) ≤ 2; decide, by show (2 : Int) ≤ 3; decide, by show (0 : Int) ≤ (i : Int); omega, by show (i : Int) < C.length; omega, by show _ = C.getD (i : Int).toNat 0; rw [Int.toNat_natCast]; exact ho.symm, fun h => absurd rfl h, fun h => by rcases h with h | h <;> exact absurd h (by simp), by show _ = C.set (i : Int).toNat _; rw [Int.toNat_natCast]⟩
theorem zEC (hi : i < C.length) : Noted who C C [⟨who, 2, (i : Nat), C.getD i 0, C.getD i 0, false⟩] :=
 .inr ⟨_, rfl, rfl, by show (0 : Int) ≤ 2; decide, by show (2 : Int) ≤ 3; decide, by show (0 : Int) ≤ (i : Int); omega, by show (i : Int) < C.length; omega, by show _ = C.getD (i : Int).toNat 0; rw [Int.toNat_natCast], fun h => absurd rfl h, fun _ => by show _ = C.getD (i : Int).toNat 0; rw [Int.toNat_natCast], by show C = C.set (i : Int).toNat _; rw [Int.toNat_natCast]; exact (zDI hi).symm⟩
theorem zAU : Noted who C C [] := .inl ⟨rfl, rfl⟩
end
theorem zDu {nb : Nat} {n : Int} {k : Tk} {C : List Int} {now : Int} (h : k.Ok nb n C) : Noted k.who C (stp nb k C now).2.1 (stp nb k C now).2.2.toList := by
 have hl := h.len; have w0 := h.w0; have w1 := h.w1; have s0 := h.s0
 have h0 : nb < C.length := by omega
 have h1 : k.steps < k.t → nb + k.steps.toNat < C.length := fun _ => by omega
 have h2 : nb + k.who.toNat < C.length := by omega
 unfold stp
 split
 ·split
  ·exact zGS h0
  ·split
   ·split
    ·rename_i hs
     exact zAh (h1 hs)
    ·split
     ·exact zA4 h2
     ·exact zAU
   ·split
    ·split
     ·exact zAh h0
     ·split
      ·exact zAh h0
      ·split
       ·split
        ·exact zC5 h0 rfl
        ·exact zEC h0
       ·exact zAh h0
    ·split
     ·exact zAU
     ·exact zAU
 ·exact zAU
theorem zHh {k : Cl} {n m : Int} {hz : Nat} {C : List Int} (h : k.Ok n m hz C) : Noted k.who C C (k.ev hz C) := by
 have h1 := h.len; have h2 := h.hz; have h3 := h.s0; have h4 := h.s1; have h5 := h.m0; have h6 := h.m1; have h7 := h.g0; have h8 := h.g1; have h9 := h.lay.t1
 unfold Cl.ev
 split
 ·refine zAh ?_
  unfold Cl.cell
  split <;> omega
 ·exact zAU
theorem zHH {k : Sn} {n : Int} {C : List Int} (h : k.Ok n C) : Noted k.who C C (k.ev C) := by
 unfold Sn.ev
 split
 ·refine zAh ?_
  have h1 := h.len; have h2 := h.s0; have h3 := h.s1; have h4 := h.r0; have h5 := h.r1; have h6 := h.lay.t1; have h7 := h.N
  unfold Sn.slot
  have := Int.emod_nonneg (k.start + k.read) (show (k.N : Int) ≠ 0 by omega)
  have := Int.emod_lt_of_pos (k.start + k.read) (show 0 < (k.N : Int) by omega)
  omega
 ·exact zAU
theorem zHk {k : Ta} {n : Int} {j jv hz : Nat} {C : List Int} (h : k.Ok n j jv hz C) : Noted k.who C (k.cells j hz C) (k.ev j jv hz C) := by
 have h1 := h.len; have h2 := h.hj; have h3 := h.hjv; have h4 := h.hhz; have h5 := h.s0; have h6 := h.s1; have h7 := h.w0; have h8 := h.w1
 have a : j < C.length := by omega
 have b : jv < C.length := by omega
 have c : hz < C.length := by omega
 unfold Ta.cells Ta.ev
 by_cases e0 : k.ph ≠ 0
 ·rw [if_pos e0, if_pos e0]
  exact zAU
 ·rw [if_neg e0, if_neg e0]
  by_cases e1 : k.next = 0
  ·rw [if_pos e1, if_pos e1]
   exact zA4 c
  ·rw [if_neg e1, if_neg e1]
   by_cases e2 : k.next = 1
   ·rw [if_pos e2, if_pos e2]
    exact zAh a
   ·rw [if_neg e2, if_neg e2]
    by_cases e3 : k.next = 2
    ·rw [if_pos e3, if_pos e3]
     exact zAh b
    ·rw [if_neg e3, if_neg e3]
     by_cases e4 : k.next = 3
     ·rw [if_pos e4, if_pos e4]
      by_cases e5 : C.getD j 0 = k.word
      ·rw [if_pos e5, if_pos e5]
       exact zC5 a e5
      ·rw [if_neg e5, if_neg e5]
       exact zEC a
     ·rw [if_neg e4, if_neg e4]
      exact zA4 c
def Wk.by' (T : Wk) (who : Int) : Prop := match T with
 | .pu k => k.who = who
 | .ge k => k.who = who ∧ k.sn.who = who ∧ ∀ a, k.ta = some a → a.who = who
section
variable {T : Wk} {P : Pl} {C : List Int} {who now z : Int}
theorem Wk.noted (h : T.Ok P C) (hw : T.by' who) : Noted who C (T.cells P C now) (T.ev P C now) := by
 cases T with
 | pu k =>
  have h1 : k.Ok P.N P.m P.nb P.h0 C := h
  have hw' : k.who = who := hw
  have s0 := h1.cl.s0; have s1 := h1.cl.s1; have m0 := h1.cl.m0; have m1 := h1.cl.m1; have hl := h1.cl.len; have t1 := h1.cl.lay.t1
  have a : k.cl.slot.toNat < C.length := by omega
  have b : P.N + k.cl.slot.toNat < C.length := by omega
  show Noted who C (k.cells P.N P.nb C now) (k.ev P.N P.nb P.h0 C now)
  unfold Pu.cells Pu.ev
  by_cases e0 : k.ph ≠ 0
  ·rw [if_pos e0, if_pos e0]
   exact zAU
  ·rw [if_neg e0, if_neg e0]
   by_cases e1 : k.next = 0
   ·rw [if_pos e1, if_pos e1]
    have := zHh h1.cl
    rw [h1.cw, hw'] at this
    exact this
   ·rw [if_neg e1, if_neg e1]
    by_cases e2 : k.next = 1
    ·rw [if_pos e2, if_pos e2]
     have := zDu (now := now) h1.tk
     rw [h1.tw, hw'] at this
     exact this
    ·rw [if_neg e2, if_neg e2]
     by_cases e3 : k.next = 2
     ·rw [if_pos e3, if_pos e3, hw']
      exact zA4 b
     ·rw [if_neg e3, if_neg e3, hw']
      exact zA4 a
 | ge k =>
  obtain ⟨w1, w2, w3⟩ : k.who = who ∧ k.sn.who = who ∧ ∀ a, k.ta = some a → a.who = who := hw
  show Noted who C (k.cells P.N P.hw C) (k.ev P.N P.hw C)
  unfold Ge.cells Ge.ev
  by_cases e0 : k.ph ≠ 0
  ·rw [if_pos e0, if_pos e0]
   exact zAU
  ·rw [if_neg e0, if_neg e0]
   have hp : k.ph = 0 := Classical.not_not.1 e0
   cases hta : k.ta with
   | none =>
    have := zHH (h.1.sn hp hta).1
    rw [w2] at this
    exact this
   | some a =>
    have := zHk (h.1.ta hp a hta).1
    rw [w3 a hta] at this
    exact this
theorem Sn.step_who (k : Sn) (C : List Int) : (k.step C).who = k.who := by
 unfold Sn.step
 split
 ·split <;> rfl
 ·rfl
theorem Wk.by_step (h : T.by' who) : (T.step P C now z).by' who := by
 cases T with
 | pu k =>
  have h' : k.who = who := h
  exact (Pu.step_same k P.m P.nb P.h0 C now).who.trans h'
 | ge k =>
  obtain ⟨w1, w2, w3⟩ : k.who = who ∧ k.sn.who = who ∧ ∀ a, k.ta = some a → a.who = who := h
  show (k.step P.N P.hw C z).who = who ∧ (k.step P.N P.hw C z).sn.who = who ∧ ∀ a, (k.step P.N P.hw C z).ta = some a → a.who = who
  unfold Ge.step
  split
  ·exact ⟨w1, w2, w3⟩
  ·split
   ·rename_i hta
    unfold Ge.read
    split
    ·exact ⟨w1, (Sn.step_who _ _).trans w2, w3⟩
    ·split
     ·exact ⟨w1, (Sn.step_who _ _).trans w2, w3⟩
     ·exact ⟨w1, (Sn.step_who _ _).trans w2, fun a ha => by cases ha; exact w1⟩
   ·rename_i a hta
    have hs := a.go_same a.slot.toNat (P.N + a.slot.toNat) C
    have ha := w3 a hta
    unfold Ge.grab
    split
    ·exact ⟨w1, w2, fun b hb => by cases hb; exact hs.who.trans ha⟩
    ·split
     ·exact ⟨w1, w1, fun b hb => by cases hb⟩
     ·exact ⟨w1, w2, fun b hb => by cases hb; exact hs.who.trans ha⟩
end
theorem zHy {t s so d who e x start m : Int} {N : Nat} (take : Bool) : (wk0 t s so d who take e x start m N).by' who := by
 cases take with
 | false => rfl
 | true => exact ⟨rfl, rfl, (fun a h => by cases h)⟩
end
end
section
open Go.RowKit
structure Dd where
 who : Int
 kd : Int
 e : Int
 x : Int
 s : Int
 fr : Int
 till : Int
 ok : Bool
 v : Int
 lo : Int
 hi : Int
def Dd.list (d : Dd) : List Value := [i64 d.who, i64 d.kd, i64 d.e, u64 d.x, i64 d.s, i64 d.fr, i64 d.till, .bool d.ok, u64 d.v, i64 d.lo, i64 d.hi]
def flatD : List Dd → List Value
 | [] => []
 | d :: l => d.list ++ flatD l
theorem zB8 : ∀ a b : List Dd, flatD (a ++ b) = flatD a ++ flatD b
 | [], _ => rfl
 | d :: a, b => by simp [flatD, zB8 a b]
theorem zB4 : ∀ l : List Dd, (flatD l).length = l.length * 11
 | [] => rfl
 | d :: l => by simp only [flatD, List.length_append, List.length_cons, zB4 l, Dd.list, List.length_nil]; omega
theorem Dd.one (d : Dd) (u : Value) (h : u ∈ d.list) : u.oneCell' = true := by
 simp only [Dd.list, List.mem_cons, List.not_mem_nil, or_false] at h
 rcases h with rfl | rfl | rfl | rfl | rfl | rfl | rfl | rfl | rfl | rfl | rfl <;> rfl
theorem zDp : ∀ (l : List Dd) (u : Value), u ∈ flatD l → u.oneCell' = true
 | [], _, h => by cases h
 | d :: l, u, h => by
  rw [flatD, List.mem_append] at h
  rcases h with h | h
  ·exact d.one u h
  ·exact zDp l u h
theorem zDU : ∀ {l : List Dd} {i j : Nat} {d : Dd}, l[i]? = some d → j < 11 → (flatD l)[i * 11 + j]? = d.list[j]?
 | [], i, j, d, h, hj => by simp at h
 | e :: l, 0, j, d, h, hj => by
  cases h
  rw [flatD, Nat.zero_mul, Nat.zero_add, List.getElem?_append_left (by exact hj)]
 | e :: l, i + 1, j, d, h, hj => by
  rw [List.getElem?_cons_succ] at h
  rw [flatD, List.getElem?_append_right (by show 11 ≤ _; omega), show (i + 1) * 11 + j - e.list.length = i * 11 + j by show (i + 1) * 11 + j - 11 = _; omega]
  exact zDU h hj
theorem zDq : ∀ {l : List Dd} {i : Nat} {d d' : Dd} (us : List (Nat × Value)), l[i]? = some d → (∀ a ∈ us, a.1 < 11) → us.foldl (fun x a => x.set a.1 a.2) d.list = d'.list → us.foldl (fun x a => x.set (i * 11 + a.1) a.2) (flatD l) = flatD (l.set i d')
 | [], i, d, d', us, h, _, _ => by simp at h
 | e :: l, 0, d, d', us, h, hj, hu => by
  cases h
  rw [List.set_cons_zero, flatD, flatD, ← hu]
  clear hu
  have key : ∀ (x : List Value), x.length = 11 → us.foldl (fun x a => x.set (0 * 11 + a.1) a.2) (x ++ flatD l) = us.foldl (fun x a => x.set a.1 a.2) x ++ flatD l := by
   induction us with
   | nil => intro x _; rfl
   | cons a us ih =>
    intro x hx
    have ha := hj a (List.mem_cons_self)
    rw [List.foldl_cons, List.foldl_cons, Nat.zero_mul, Nat.zero_add, List.set_append_left _ _ (by omega)]
    exact ih (fun b hb => hj b (List.mem_cons_of_mem _ hb)) _ (by rw [List.length_set]; exact hx)
  exact key _ rfl
 | e :: l, i + 1, d, d', us, h, hj, hu => by
  rw [List.getElem?_cons_succ] at h
  rw [List.set_cons_succ, flatD, flatD, ← zDq us h hj hu]
  clear hu
  have key : ∀ (y : List Value), us.foldl (fun x a => x.set ((i + 1) * 11 + a.1) a.2) (e.list ++ y) = e.list ++ us.foldl (fun x a => x.set (i * 11 + a.1) a.2) y := by
   induction us with
   | nil => intro x; rfl
   | cons a us ih =>
    intro y
    have h11 : e.list.length = 11 := rfl
    rw [List.foldl_cons, List.foldl_cons, List.set_append_right _ _ (by omega), show (i + 1) * 11 + a.1 - e.list.length = i * 11 + a.1 by omega]
    exact ih (fun b hb => hj b (List.mem_cons_of_mem _ hb)) _
  exact key _
theorem zCp {α : Type} {l : List α} {i : Nat} {f : α → α} {d : α} (h : l[i]? = some d) : l.modify i f = l.set i (f d) := by
 refine List.ext_getElem? (fun j => ?_)
 rw [List.getElem?_modify, List.getElem?_set]
 by_cases e : i = j
 ·subst e
  rw [h, if_pos rfl, if_pos (List.getElem?_eq_some_iff.1 h).1]
  simp
 ·rw [if_neg e]
  cases l[j]? <;> simp [e]
theorem zGe : ElemAt Tryz.prog 27 39 (.agg #[.int .i64 0, .int .i64 0, .int .i64 0, .int .u64 0, .int .i64 0, .int .i64 0, .int .i64 0, .bool false, .int .u64 0, .int .i64 0, .int .i64 0]) 11 88 :=
 ElemAt.mk' Tryz.underlying27 (by kernel_rfl) rfl (by decide)
structure AtDd (w : World) (b o : Nat) (d : Dd) : Prop where
 c0 : w.cell? ⟨b, o, none⟩ = some (i64 d.who)
 c1 : w.cell? ⟨b, o + 1, none⟩ = some (i64 d.kd)
 c2 : w.cell? ⟨b, o + 2, none⟩ = some (i64 d.e)
 c3 : w.cell? ⟨b, o + 3, none⟩ = some (u64 d.x)
 c4 : w.cell? ⟨b, o + 4, none⟩ = some (i64 d.s)
 c5 : w.cell? ⟨b, o + 5, none⟩ = some (i64 d.fr)
 c6 : w.cell? ⟨b, o + 6, none⟩ = some (i64 d.till)
 c7 : w.cell? ⟨b, o + 7, none⟩ = some (.bool d.ok)
 c8 : w.cell? ⟨b, o + 8, none⟩ = some (u64 d.v)
 c9 : w.cell? ⟨b, o + 9, none⟩ = some (i64 d.lo)
 c10 : w.cell? ⟨b, o + 10, none⟩ = some (i64 d.hi)
structure AtBd (w : World) (b : Nat) (d : Dd) : Prop where
 c0 : w.cell? ⟨b, 0, none⟩ = some (i64 d.who)
 c1 : w.cell? ⟨b, 1, none⟩ = some (i64 d.kd)
 c2 : w.cell? ⟨b, 2, none⟩ = some (i64 d.e)
 c3 : w.cell? ⟨b, 3, none⟩ = some (u64 d.x)
 c4 : w.cell? ⟨b, 4, none⟩ = some (i64 d.s)
 c5 : w.cell? ⟨b, 5, none⟩ = some (i64 d.fr)
 c6 : w.cell? ⟨b, 6, none⟩ = some (i64 d.till)
 c7 : w.cell? ⟨b, 7, none⟩ = some (.bool d.ok)
 c8 : w.cell? ⟨b, 8, none⟩ = some (u64 d.v)
 c9 : w.cell? ⟨b, 9, none⟩ = some (i64 d.lo)
 c10 : w.cell? ⟨b, 10, none⟩ = some (i64 d.hi)
abbrev Dd.val (d : Dd) : Value := .agg #[.int .i64 d.who, .int .i64 d.kd, .int .i64 d.e, .int .u64 d.x, .int .i64 d.s, .int .i64 d.fr, .int .i64 d.till, .bool d.ok, .int .u64 d.v, .int .i64 d.lo, .int .i64 d.hi]
abbrev Dd.obj (d : Dd) (T : TypeId) : Obj := .cells #[.int .i64 d.who, .int .i64 d.kd, .int .i64 d.e, .int .u64 d.x, .int .i64 d.s, .int .i64 d.fr, .int .i64 d.till, .bool d.ok, .int .u64 d.v, .int .i64 d.lo, .int .i64 d.hi] T
theorem AtBd.made (w : World) (d : Dd) (T : TypeId) : AtBd (w.alloc (d.obj T)) w.heap.size d := ⟨by simp, by simp, by simp, by simp, by simp, by simp, by simp, by simp, by simp, by simp, by simp⟩
theorem AtBd.lt {w : World} {b : Nat} {d : Dd} (h : AtBd w b d) : b < w.heap.size := World.block_lt_of_cell? w _ h.c0
theorem AtBd.later {w w' : World} {b : Nat} {d : Dd} (h : AtBd w b d) (e : Below w.heap.size w w') : AtBd w' b d :=
 have k : ∀ j, w'.cell? ⟨b, j, none⟩ = w.cell? ⟨b, j, none⟩ := fun j => e.cell (p := ⟨b, j, none⟩) h.lt
 ⟨(k _).trans h.c0, (k _).trans h.c1, (k _).trans h.c2, (k _).trans h.c3, (k _).trans h.c4, (k _).trans h.c5, (k _).trans h.c6, (k _).trans h.c7, (k _).trans h.c8, (k _).trans h.c9, (k _).trans h.c10⟩
theorem AtBd.kept {w w' : World} {b : Nat} {d : Dd} {row : Option Nat} (h : AtBd w b d) (e : w.grownBy w' row) (hr : some b ≠ row) : AtBd w' b d :=
 have k : ∀ j, w'.cell? ⟨b, j, none⟩ = w.cell? ⟨b, j, none⟩ := fun j => World.cell?_of_block (e.block b h.lt hr)
 ⟨(k _).trans h.c0, (k _).trans h.c1, (k _).trans h.c2, (k _).trans h.c3, (k _).trans h.c4, (k _).trans h.c5, (k _).trans h.c6, (k _).trans h.c7, (k _).trans h.c8, (k _).trans h.c9, (k _).trans h.c10⟩
theorem AtDd.row {w : World} {base cap g i : Nat} {ds : List Dd} {d : Dd} (h : w.ownsRow base 39 11 (.slice (some ⟨g, 0, none⟩) ds.length cap) ds.length (flatD ds)) (hd : ds[i]? = some d) : AtDd w g (i * 11) d :=
 have hi := (List.getElem?_eq_some_iff.1 hd).1
 have k : ∀ j u, j < 11 → d.list[j]? = some u → w.cell? ⟨g, i * 11 + j, none⟩ = some u := fun j u hj hu => (h.cellAt _ (by omega)).trans ((zDU hd hj).trans hu)
 ⟨k 0 _ (by decide) rfl, k 1 _ (by decide) rfl, k 2 _ (by decide) rfl, k 3 _ (by decide) rfl, k 4 _ (by decide) rfl, k 5 _ (by decide) rfl, k 6 _ (by decide) rfl, k 7 _ (by decide) rfl, k 8 _ (by decide) rfl, k 9 _ (by decide) rfl, k 10 _ (by decide) rfl⟩
theorem AtDd.later {w w' : World} {b o : Nat} {d : Dd} (h : AtDd w b o d) (e : Below w.heap.size w w') : AtDd w' b o d :=
 have hb := World.block_lt_of_cell? w _ h.c0
 have k : ∀ j, w'.cell? ⟨b, j, none⟩ = w.cell? ⟨b, j, none⟩ := fun j => e.cell (p := ⟨b, j, none⟩) hb
 ⟨(k _).trans h.c0, (k _).trans h.c1, (k _).trans h.c2, (k _).trans h.c3, (k _).trans h.c4, (k _).trans h.c5, (k _).trans h.c6, (k _).trans h.c7, (k _).trans h.c8, (k _).trans h.c9, (k _).trans h.c10⟩
theorem zAw {w : World} {base : Nat} {e : TypeId} {sz n cap : Nat} {A : Option Addr} {xs : List Value} (h : w.ownsRow base e sz (.slice A n cap) n xs) : n ≤ cap := by
 rcases h.2 with ⟨hv, h0⟩ | ⟨g, cap', cur, hv, _, _, hc, _⟩
 ·omega
 ·cases hv
  exact hc
theorem zHI {w : World} {base : Nat} {g cap : Nat} {L : List Dd} (h : w.ownsRow base 39 11 (.slice (some ⟨g, 0, none⟩) L.length cap) L.length (flatD L)) : Src w 11 (some ⟨g, 0, none⟩) L.length (flatD L) :=
 ⟨(fun h => by cases h), zB4 L, fun ad had j u hj => by cases had; exact h.cells rfl j u hj, zDp L⟩
theorem AtDd.later' {w w' : World} {tb o B : Nat} {d : Dd} (h : AtDd w tb o d) (e : Below B w w') (hB : tb < B) : AtDd w' tb o d :=
 have k : ∀ j, w'.cell? ⟨tb, j, none⟩ = w.cell? ⟨tb, j, none⟩ := fun j => e.cell (p := ⟨tb, j, none⟩) hB
 ⟨(k _).trans h.c0, (k _).trans h.c1, (k _).trans h.c2, (k _).trans h.c3, (k _).trans h.c4, (k _).trans h.c5, (k _).trans h.c6, (k _).trans h.c7, (k _).trans h.c8, (k _).trans h.c9, (k _).trans h.c10⟩
structure Dd.Fit (d : Dd) : Prop where
 who : (Lit.int .i64 d.who).wf = true
 f0 : -9223372036854775808 ≤ d.fr
 f1 : d.fr ≤ 9223372036854775807
 t0 : -9223372036854775808 ≤ d.till
 t1 : d.till ≤ 9223372036854775807
structure Dd.FitV (d : Dd) : Prop where
 x0 : 0 ≤ d.x
 x1 : d.x ≤ 18446744073709551615
 v0 : 0 ≤ d.v
 v1 : d.v ≤ 18446744073709551615
def IsDds (w : World) (a0 : Option Addr) (len cap tb off : Nat) (l : List Dd) : Prop :=
 l.length = len ∧ len ≤ cap ∧ (0 < len → a0 = some ⟨tb, off, none⟩ ∧ tb < w.heap.size) ∧ ∀ (i : Nat) (d : Dd), l[i]? = some d → AtDd w tb (off + i * 11) d ∧ d.Fit
theorem IsDds.later {w w' : World} {a : Option Addr} {len cap tb off B : Nat} {l : List Dd} (h : IsDds w a len cap tb off l) (e : Below B w w') (hB : 0 < len → tb < B) : IsDds w' a len cap tb off l := by
 obtain ⟨h1, h2, h3, h4⟩ := h
 refine ⟨h1, h2, fun hp => ⟨(h3 hp).1, ?_⟩, fun i d hd => ?_⟩
 ·obtain ⟨d, hd⟩ : ∃ d, l[0]? = some d := ⟨_, List.getElem?_eq_getElem (by omega)⟩
  exact World.block_lt_of_cell? w' _ ((h4 0 d hd).1.later' e (hB hp)).c0
 ·have hp : 0 < len := by have := (List.getElem?_eq_some_iff.1 hd).1; omega
  exact ⟨(h4 i d hd).1.later' e (hB hp), (h4 i d hd).2⟩
end
section
open Go.RowKit
structure Yd where
 C : List Int
 L : List Ev
 now : Int
 moves : Nat
 ts : List (Option (Wk × Nat))
 ds : List Dd
def yMax : Int := 1099511627776
def Yd.call (Y : Yd) (w : Nat) (kd e x s : Int) (T : Wk) : Yd :=
 { Y with moves := Y.moves + 1, ts := Y.ts.set w (some (T, Y.ds.length)), ds := Y.ds ++ [⟨w, kd, e, x, s, Y.moves, -1, false, 0, 0, 0⟩] }
def Dd.over (d : Dd) (m : Nat) (T : Wk) : Dd := if T.ph = 1 then { d with till := m, ok := true, v := (match T with | .pu _ => 0 | .ge k => k.val), lo := (match T with | .pu k => k.tk.lo | .ge _ => 0), hi := (match T with | .pu k => k.tk.hi | .ge _ => 0) } else { d with till := m }
def Yd.tick (Y : Yd) : Int := if Y.now < yMax then Y.now + 1 else yMax
def Yd.step (Y : Yd) (P : Pl) (w : Nat) (T : Wk) (i : Nat) (z : Int) : Yd :=
 ⟨T.cells P Y.C Y.now, Y.L ++ T.ev P Y.C Y.now, Y.tick, Y.moves + 1,
  if (T.step P Y.C Y.now z).ph = 0 then Y.ts.set w (some (T.step P Y.C Y.now z, i)) else Y.ts.set w none,
  if (T.step P Y.C Y.now z).ph = 0 then Y.ds else Y.ds.modify i (fun d => d.over Y.moves (T.step P Y.C Y.now z))⟩
def Yd.pass (Y : Yd) (n : Int) : Yd := { Y with now := if n > yMax - Y.now then yMax else Y.now + n }
inductive YMv (pl : Nat → Pl) (Y : Yd) : Yd → Prop
 | rest : YMv pl Y Y
 | call (w : Nat) (kd e x s : Int) (T : Wk) (hw : Y.ts[w]? = some none) (hk : T.Ok (pl w) Y.C) (h0 : T.few 0) (hb : T.by' w) (hp : T.ph = 0) (hr : (kd = 0 ∨ kd = 1) ∧ (e = 0 ∨ e = 1)) : YMv pl Y (Y.call w kd e x s T)
 | step (w : Nat) (T : Wk) (i : Nat) (z : Int) (hw : Y.ts[w]? = some (some (T, i))) (ha : T.ask Y.C z) : YMv pl Y (Y.step (pl w) w T i z)
 | pass (n : Int) (hn : 0 < n) : YMv pl Y (Y.pass n)
structure YOk (pl : Nat → Pl) (t n : Nat) (Y : Yd) : Prop where
 len : Y.ts.length = t
 task : ∀ (w : Nat) (T : Wk) (i : Nat), Y.ts[w]? = some (some (T, i)) → T.Ok (pl w) Y.C ∧ T.few n ∧ T.by' w ∧ T.ph = 0 ∧ ∃ d : Dd, Y.ds[i]? = some d ∧ d.who = w ∧ d.till = -1 ∧ d.ok = false ∧ d.v = 0 ∧ d.lo = 0 ∧ d.hi = 0
 now0 : 0 ≤ Y.now
 now1 : Y.now ≤ yMax
 deed : ∀ (i : Nat) (d : Dd), Y.ds[i]? = some d → (∃ w : Nat, d.who = w ∧ w < t ∧ (d.till = -1 → ∃ T, Y.ts[w]? = some (some (T, i)))) ∧ 0 ≤ d.fr ∧ d.fr < Y.moves ∧ (d.till ≠ -1 → d.fr < d.till ∧ d.till < Y.moves)
 order : ∀ (i j : Nat) (d d' : Dd), i < j → Y.ds[i]? = some d → Y.ds[j]? = some d' → d.fr < d'.fr ∧ (d.who = d'.who → d.till ≠ -1 ∧ d.till < d'.fr)
 most : Y.moves ≤ n
 nds : Y.ds.length ≤ Y.moves
 nL : Y.L.length ≤ Y.moves
section
variable {pl : Nat → Pl} {t n : Nat} {Y Y' : Yd}
theorem YOk.start (C : List Int) (t : Nat) : YOk pl t 0 ⟨C, [], 0, 0, List.replicate t none, []⟩ :=
 ⟨List.length_replicate, (fun w T i h => by
  rw [List.getElem?_replicate] at h
  split at h <;> cases h), Int.le_refl _, by show (0 : Int) ≤ yMax; decide, (fun i d h => by simp at h), (fun i j d d' _ h => by simp at h), Nat.le_refl _, Nat.le_refl _, Nat.le_refl _⟩
theorem Dd.over_same (d : Dd) (m : Nat) (T : Wk) : (d.over m T).who = d.who ∧ (d.over m T).kd = d.kd ∧ (d.over m T).e = d.e ∧ (d.over m T).x = d.x ∧ (d.over m T).s = d.s ∧ (d.over m T).fr = d.fr ∧ (d.over m T).till = m := by
 unfold Dd.over
 split <;> exact ⟨rfl, rfl, rfl, rfl, rfl, rfl, rfl⟩
theorem Yd.tick_fit (h0 : 0 ≤ Y.now) (h1 : Y.now ≤ yMax) : 0 ≤ Y.tick ∧ Y.tick ≤ yMax := by
 have e : yMax = 1099511627776 := rfl
 unfold Yd.tick
 split <;> omega
theorem zBM {ds : List Dd} {i : Nat} {f : Dd → Dd} {d : Dd} (h : ds[i]? = some d) : (ds.modify i f)[i]? = some (f d) := by
 rw [List.getElem?_modify, h]
 simp
theorem zBe {ds : List Dd} {i j : Nat} {f : Dd → Dd} (e : i ≠ j) : (ds.modify i f)[j]? = ds[j]? := by
 rw [List.getElem?_modify]
 cases ds[j]? <;> simp [e]
theorem ymod {ds : List Dd} {i j : Nat} {f : Dd → Dd} {d : Dd} (h : (ds.modify i f)[j]? = some d) : (i = j ∧ ∃ d0, ds[j]? = some d0 ∧ d = f d0) ∨ (i ≠ j ∧ ds[j]? = some d) := by
 by_cases e : i = j
 ·subst e
  cases hd : ds[i]? with
  | none =>
   rw [List.getElem?_modify, hd] at h
   cases h
  | some d0 =>
   rw [zBM hd] at h
   cases h
   exact .inl ⟨rfl, d0, rfl, rfl⟩
 ·rw [zBe e] at h
  exact .inr ⟨e, h⟩
theorem yset {α : Type} {l : List α} {i j : Nat} {a b : α} (h : (l.set i a)[j]? = some b) : (i = j ∧ b = a ∧ j < l.length) ∨ (i ≠ j ∧ l[j]? = some b) := by
 rw [List.getElem?_set] at h
 split at h
 ·rename_i e
  split at h
  ·rename_i hl
   cases h
   exact .inl ⟨e, rfl, by omega⟩
  ·cases h
 ·rename_i e
  exact .inr ⟨e, h⟩
theorem ysnoc {α : Type} {l : List α} {j : Nat} {a b : α} (h : (l ++ [a])[j]? = some b) : (j = l.length ∧ b = a) ∨ (j < l.length ∧ l[j]? = some b) := by
 rcases Nat.lt_or_ge j l.length with hj | hj
 ·rw [List.getElem?_append_left hj] at h
  exact .inr ⟨hj, h⟩
 ·rw [List.getElem?_append_right hj] at h
  rcases (by omega : j - l.length = 0 ∨ 0 < j - l.length) with e | e
  ·rw [e] at h
   cases h
   exact .inl ⟨by omega, rfl⟩
  ·rw [List.getElem?_eq_none (by show 1 ≤ _; omega)] at h
   cases h
theorem YOk.next (h : YOk pl t n Y) (hm : YMv pl Y Y') (hn : n < 1000000) (hf : ∀ j, 0 ≤ Y.C.getD j 0 ∧ Y.C.getD j 0 ≤ 18446744073709551615) : YOk pl t (n + 1) Y' := by
 obtain ⟨len, task, now0, now1, deed, order, most, nds, nL⟩ := id h
 cases hm with
 | rest => exact ⟨len, fun w T i hw => by obtain ⟨a, b, c⟩ := task w T i hw; exact ⟨a, b.mono (Nat.le_succ _), c⟩, now0, now1, deed, order, by omega, nds, nL⟩
 | pass k hk =>
  refine ⟨len, fun w T i hw => by obtain ⟨a, b, c⟩ := task w T i hw; exact ⟨a, b.mono (Nat.le_succ _), c⟩, ?_, ?_, deed, order, by show Y.moves ≤ n + 1; omega, nds, nL⟩
  ·show (0 : Int) ≤ if k > yMax - Y.now then yMax else Y.now + k
   have e : yMax = 1099511627776 := rfl
   split <;> omega
  ·show (if k > yMax - Y.now then yMax else Y.now + k) ≤ yMax
   split <;> omega
 | call w kd e x s T hw hk h0 hb hp hr =>
  have hwl : w < Y.ts.length := (List.getElem?_eq_some_iff.1 hw).1
  refine ⟨by show (Y.ts.set w _).length = t; rw [List.length_set]; exact len, fun w' T' i hw' => ?_, now0, now1, fun i d hd => ?_, fun i j d d' hij hd hd' => ?_, by show Y.moves + 1 ≤ n + 1; omega, by show (Y.ds ++ [_]).length ≤ Y.moves + 1; rw [List.length_append, List.length_singleton]; omega, by show Y.L.length ≤ Y.moves + 1; omega⟩
  ·rcases yset hw' with ⟨rfl, he, _⟩ | ⟨hne, hw2⟩
   ·cases he
    exact ⟨hk, h0.mono (Nat.zero_le _), hb, hp, _, by show (Y.ds ++ [_])[Y.ds.length]? = _; rw [List.getElem?_append_right (Nat.le_refl _), Nat.sub_self]; rfl, rfl, rfl, rfl, rfl, rfl, rfl⟩
   ·obtain ⟨a, b, c, d0, d, hd, hd2⟩ := task w' T' i hw2
    exact ⟨a, b.mono (Nat.le_succ _), c, d0, d, by show (Y.ds ++ [_])[i]? = _; rw [List.getElem?_append_left (List.getElem?_eq_some_iff.1 hd).1]; exact hd, hd2⟩
  ·rcases ysnoc hd with ⟨rfl, rfl⟩ | ⟨hi, hd⟩
   ·exact ⟨⟨w, rfl, by omega, fun _ => ⟨T, List.getElem?_set_self hwl⟩⟩, by show (0 : Int) ≤ (Y.moves : Int); omega, by show (Y.moves : Int) < ((Y.moves + 1 : Nat) : Int); omega, fun h => absurd rfl h⟩
   ·obtain ⟨⟨w', g1, g2, g3⟩, g4, g5, g6⟩ := deed i d hd
    refine ⟨⟨w', g1, g2, fun ht => ?_⟩, g4, by show d.fr < ((Y.moves + 1 : Nat) : Int); omega, fun ht => by have := g6 ht; exact ⟨this.1, by show d.till < ((Y.moves + 1 : Nat) : Int); omega⟩⟩
    obtain ⟨T', hT'⟩ := g3 ht
    refine ⟨T', ?_⟩
    show (Y.ts.set w _)[w']? = _
    rw [List.getElem?_set_ne (fun e => by rw [e] at hw; rw [hw] at hT'; cases hT')]
    exact hT'
  ·rcases ysnoc hd' with ⟨rfl, rfl⟩ | ⟨hj, hd'⟩
   ·rcases ysnoc hd with ⟨rfl, rfl⟩ | ⟨hi, hd⟩
    ·omega
    ·obtain ⟨⟨w', g1, g2, g3⟩, g4, g5, g6⟩ := deed i d hd
     refine ⟨g5, fun he => ?_⟩
     have hww : w' = w := by
      have he' : d.who = (w : Int) := he
      omega
     have ht : d.till ≠ -1 := fun ht => by
      obtain ⟨T', hT'⟩ := g3 ht
      rw [hww, hw] at hT'
      cases hT'
     exact ⟨ht, (g6 ht).2⟩
   ·rcases ysnoc hd with ⟨rfl, rfl⟩ | ⟨hi, hd⟩
    ·omega
    ·exact order i j d d' hij hd hd'
 | step w T i z hw ha =>
  have hwl : w < Y.ts.length := (List.getElem?_eq_some_iff.1 hw).1
  obtain ⟨k1, k2, k3, k4, d0, k5, k6, k7⟩ := task w T i hw
  obtain ⟨o1, o2⟩ := k1.next k2 hn ha now0 hf
  have o3 : (T.step (pl w) Y.C Y.now z).by' w := Wk.by_step k3
  have hcl : (T.cells (pl w) Y.C Y.now).length = Y.C.length := Wk.cells_len
  have hev : (T.ev (pl w) Y.C Y.now).length ≤ 1 := Wk.ev_le
  have htick := Yd.tick_fit now0 now1
  have huni : ∀ w' T', Y.ts[w']? = some (some (T', i)) → w' = w := fun w' T' h' => by
   obtain ⟨_, _, _, _, d', g1, g2, _⟩ := task w' T' i h'
   rw [k5] at g1
   cases g1
   omega
  unfold Yd.step
  generalize T.step (pl w) Y.C Y.now z = T2 at o1 o2 o3 ⊢
  generalize T.cells (pl w) Y.C Y.now = C2 at o1 hcl ⊢
  generalize T.ev (pl w) Y.C Y.now = E at hev ⊢
  have hL : (Y.L ++ E).length ≤ Y.moves + 1 := by rw [List.length_append]; omega
  by_cases hp : T2.ph = 0
  ·rw [if_pos hp, if_pos hp]
   refine ⟨by show (Y.ts.set w _).length = t; rw [List.length_set]; exact len, fun w' T' i' hw' => ?_, htick.1, htick.2, fun i' d hd => ?_, order, by show Y.moves + 1 ≤ n + 1; omega, by show Y.ds.length ≤ Y.moves + 1; omega, hL⟩
   ·rcases yset hw' with ⟨rfl, he, _⟩ | ⟨hne, hw2⟩
    ·cases he
     exact ⟨o1, o2, o3, hp, d0, k5, k6, k7⟩
    ·obtain ⟨a, b, c⟩ := task w' T' i' hw2
     exact ⟨a.cells hcl, b.mono (Nat.le_succ _), c⟩
   ·obtain ⟨⟨w', g1, g2, g3⟩, g4, g5, g6⟩ := deed i' d hd
    refine ⟨⟨w', g1, g2, fun ht => ?_⟩, g4, by show d.fr < ((Y.moves + 1 : Nat) : Int); omega, fun ht => by have := g6 ht; exact ⟨this.1, by show d.till < ((Y.moves + 1 : Nat) : Int); omega⟩⟩
    obtain ⟨T', hT'⟩ := g3 ht
    by_cases hww : w = w'
    ·subst hww
     rw [hw] at hT'
     cases hT'
     exact ⟨T2, List.getElem?_set_self hwl⟩
    ·exact ⟨T', by show (Y.ts.set w _)[w']? = _; rw [List.getElem?_set_ne hww]; exact hT'⟩
  ·rw [if_neg hp, if_neg hp]
   refine ⟨by show (Y.ts.set w _).length = t; rw [List.length_set]; exact len, fun w' T' i' hw' => ?_, htick.1, htick.2, fun i' d hd => ?_, fun i1 j1 d d' hij hd hd' => ?_, by show Y.moves + 1 ≤ n + 1; omega, by show (Y.ds.modify i _).length ≤ Y.moves + 1; rw [List.length_modify]; omega, hL⟩
   ·rcases yset hw' with ⟨rfl, he, _⟩ | ⟨hne, hw2⟩
    ·cases he
    ·obtain ⟨a, b, c, c2, d, hd, hd2⟩ := task w' T' i' hw2
     have hii : i ≠ i' := fun e => by
      subst e
      exact hne (huni w' T' hw2).symm
     exact ⟨a.cells hcl, b.mono (Nat.le_succ _), c, c2, d, by show (Y.ds.modify i _)[i']? = _; rw [zBe hii]; exact hd, hd2⟩
   ·rcases ymod hd with ⟨rfl, d1, hd1, rfl⟩ | ⟨hne, hd⟩
    ·rw [k5] at hd1
     cases hd1
     obtain ⟨s1, _, _, _, _, s6, s7⟩ := Dd.over_same d0 Y.moves T2
     obtain ⟨⟨w', g1, g2, g3⟩, g4, g5, g6⟩ := deed i d0 k5
     refine ⟨⟨w', s1.trans g1, g2, fun ht => ?_⟩, by rw [s6]; exact g4, by rw [s6]; show d0.fr < ((Y.moves + 1 : Nat) : Int); omega, fun _ => ?_⟩
     ·rw [s7] at ht
      omega
     ·rw [s6, s7]
      exact ⟨g5, by show (Y.moves : Int) < ((Y.moves + 1 : Nat) : Int); omega⟩
    ·obtain ⟨⟨w', g1, g2, g3⟩, g4, g5, g6⟩ := deed i' d hd
     refine ⟨⟨w', g1, g2, fun ht => ?_⟩, g4, by show d.fr < ((Y.moves + 1 : Nat) : Int); omega, fun ht => by have := g6 ht; exact ⟨this.1, by show d.till < ((Y.moves + 1 : Nat) : Int); omega⟩⟩
     obtain ⟨T', hT'⟩ := g3 ht
     by_cases hww : w = w'
     ·subst hww
      rw [hw] at hT'
      cases hT'
      exact absurd rfl hne
     ·exact ⟨T', by show (Y.ts.set w _)[w']? = _; rw [List.getElem?_set_ne hww]; exact hT'⟩
   ·have hset : ∀ {j2 : Nat} {d2 : Dd}, (Y.ds.modify i (fun d => d.over Y.moves T2))[j2]? = some d2 → ∃ d3, Y.ds[j2]? = some d3 ∧ d2.fr = d3.fr ∧ d2.who = d3.who ∧ (d2.till = d3.till ∨ (j2 = i ∧ d3.till = -1)) := fun {j2 d2} h2 => by
     rcases ymod h2 with ⟨rfl, d1, hd1, rfl⟩ | ⟨hne, h3⟩
     ·obtain ⟨s1, _, _, _, _, s6, s7⟩ := Dd.over_same d1 Y.moves T2
      refine ⟨d1, hd1, s6, s1, .inr ⟨rfl, ?_⟩⟩
      rw [k5] at hd1
      cases hd1
      exact k7.1
     ·exact ⟨d2, h3, rfl, rfl, .inl rfl⟩
    obtain ⟨e1, f1, f2, f3, f4⟩ := hset hd
    obtain ⟨e2, p1, p2, p3, p4⟩ := hset hd'
    obtain ⟨q1, q2⟩ := order i1 j1 e1 e2 hij f1 p1
    refine ⟨by rw [f2, p2]; exact q1, fun he => ?_⟩
    obtain ⟨r1, r2⟩ := q2 (by rw [← f3, ← p3]; exact he)
    rcases f4 with f4 | ⟨_, f4⟩
    ·rw [f4, p2]
     exact ⟨r1, r2⟩
    ·exact absurd f4 r1
theorem YMv.noted (h : YOk pl t n Y) (hm : YMv pl Y Y') : ∃ (w : Nat) (E : List Ev), Noted w Y.C Y'.C E ∧ Y'.L = Y.L ++ E ∧ (E ≠ [] → ∃ T i z, Y.ts[w]? = some (some (T, i)) ∧ Y' = Y.step (pl w) w T i z) := by
 cases hm with
 | rest => exact ⟨0, [], zAU, (List.append_nil _).symm, fun h => absurd rfl h⟩
 | pass k hk => exact ⟨0, [], zAU, (List.append_nil _).symm, fun h => absurd rfl h⟩
 | call w kd e x s T hw hk h0 hb hp hr => exact ⟨0, [], zAU, (List.append_nil _).symm, fun h => absurd rfl h⟩
 | step w T i z hw ha =>
  obtain ⟨k1, k2, k3, k4, d0, k5, k6, k7⟩ := h.task w T i hw
  exact ⟨w, _, Wk.noted k1 k3, rfl, fun _ => ⟨T, i, z, hw, rfl⟩⟩
structure YLater (Y Y' : Yd) : Prop where
 deed : ∀ (i : Nat) (d : Dd), Y.ds[i]? = some d → ∃ d', Y'.ds[i]? = some d' ∧ d'.who = d.who ∧ d'.kd = d.kd ∧ d'.e = d.e ∧ d'.x = d.x ∧ d'.s = d.s ∧ d'.fr = d.fr ∧ (d.till ≠ -1 → d' = d)
 log : ∃ E, Y'.L = Y.L ++ E
theorem YLater.refl (Y : Yd) : YLater Y Y := ⟨fun i d h => ⟨d, h, rfl, rfl, rfl, rfl, rfl, rfl, fun _ => rfl⟩, [], (List.append_nil _).symm⟩
theorem YLater.trans {A B D : Yd} (h : YLater A B) (k : YLater B D) : YLater A D := by
 obtain ⟨E, hE⟩ := h.log
 obtain ⟨F, hF⟩ := k.log
 refine ⟨fun i d hd => ?_, E ++ F, by rw [hF, hE, List.append_assoc]⟩
 obtain ⟨d', a, b1, b2, b3, b4, b5, b6, b7⟩ := h.deed i d hd
 obtain ⟨d2, a', c1, c2, c3, c4, c5, c6, c7⟩ := k.deed i d' a
 exact ⟨d2, a', c1.trans b1, c2.trans b2, c3.trans b3, c4.trans b4, c5.trans b5, c6.trans b6, fun ht => by have e := b7 ht; rw [c7 (by rw [e]; exact ht), e]⟩
theorem YMv.later (h : YOk pl t n Y) (hm : YMv pl Y Y') : YLater Y Y' := by
 obtain ⟨w0, E, _, hE, _⟩ := hm.noted h
 refine ⟨fun i' d hd => ?_, E, hE⟩
 cases hm with
 | rest => exact ⟨d, hd, rfl, rfl, rfl, rfl, rfl, rfl, fun _ => rfl⟩
 | pass k hk => exact ⟨d, hd, rfl, rfl, rfl, rfl, rfl, rfl, fun _ => rfl⟩
 | call w kd e x s T hw hk h0 hb hp hr => exact ⟨d, by show (Y.ds ++ [_])[i']? = _; rw [List.getElem?_append_left (List.getElem?_eq_some_iff.1 hd).1]; exact hd, rfl, rfl, rfl, rfl, rfl, rfl, fun _ => rfl⟩
 | step w T i z hw ha =>
  obtain ⟨k1, k2, k3, k4, d0, k5, k6, k7⟩ := h.task w T i hw
  unfold Yd.step
  by_cases hp : (T.step (pl w) Y.C Y.now z).ph = 0
  ·rw [if_pos hp, if_pos hp]
   exact ⟨d, hd, rfl, rfl, rfl, rfl, rfl, rfl, fun _ => rfl⟩
  ·rw [if_neg hp, if_neg hp]
   show ∃ d', (Y.ds.modify i _)[i']? = some d' ∧ _
   by_cases e : i = i'
   ·subst e
    rw [k5] at hd
    obtain rfl : d0 = d := by injection hd
    obtain ⟨s1, s2, s3, s4, s5, s6, _⟩ := Dd.over_same d0 Y.moves (T.step (pl w) Y.C Y.now z)
    exact ⟨_, zBM k5, s1, s2, s3, s4, s5, s6, fun ht => absurd k7.1 ht⟩
   ·exact ⟨d, by rw [zBe e]; exact hd, rfl, rfl, rfl, rfl, rfl, rfl, fun _ => rfl⟩
end
end
section
open Go.RowKit
structure Mv where
 kind : Int
 who : Int
 take : Bool
 right : Bool
 value : Int
 start : Int
 time : Int
def Mv.v (x : Mv) : Value := .agg #[i64 x.kind, i64 x.who, .bool x.take, .bool x.right, u64 x.value, i64 x.start, i64 x.time]
structure AtMv (w : World) (tb o : Nat) (x : Mv) : Prop where
 c0 : w.cell? ⟨tb, o, none⟩ = some (i64 x.kind)
 c1 : w.cell? ⟨tb, o + 1, none⟩ = some (i64 x.who)
 c2 : w.cell? ⟨tb, o + 2, none⟩ = some (.bool x.take)
 c3 : w.cell? ⟨tb, o + 3, none⟩ = some (.bool x.right)
 c4 : w.cell? ⟨tb, o + 4, none⟩ = some (u64 x.value)
 c5 : w.cell? ⟨tb, o + 5, none⟩ = some (i64 x.start)
 c6 : w.cell? ⟨tb, o + 6, none⟩ = some (i64 x.time)
theorem AtMv.later {w w' : World} {tb o B : Nat} {x : Mv} (h : AtMv w tb o x) (e : Below B w w') (hB : tb < B) : AtMv w' tb o x :=
 have k : ∀ j, w'.cell? ⟨tb, j, none⟩ = w.cell? ⟨tb, j, none⟩ := fun j => e.cell (p := ⟨tb, j, none⟩) hB
 ⟨(k _).trans h.c0, (k _).trans h.c1, (k _).trans h.c2, (k _).trans h.c3, (k _).trans h.c4, (k _).trans h.c5, (k _).trans h.c6⟩
def IsMvs (w : World) (a0 : Option Addr) (len cap tb off : Nat) (X : Nat → Mv) : Prop :=
 ∀ i, i < len → a0 = some ⟨tb, off, none⟩ ∧ len ≤ cap ∧ tb < w.heap.size ∧ AtMv w tb (off + i * 7) (X i) ∧ 0 ≤ (X i).value ∧ (X i).value ≤ 18446744073709551615
theorem IsMvs.later {w w' : World} {a : Option Addr} {len cap tb off B : Nat} {X : Nat → Mv} (h : IsMvs w a len cap tb off X) (e : Below B w w') (hB : ∀ i, i < len → tb < B) : IsMvs w' a len cap tb off X := fun i hi => by
 obtain ⟨h1, h2, h3, h4, h5⟩ := h i hi
 have h6 := h4.later e (hB i hi)
 exact ⟨h1, h2, World.block_lt_of_cell? w' _ h6.c0, h6, h5⟩
theorem Dd.over_reply (d : Dd) (m : Nat) (T : Wk) (h : d.ok = false ∧ d.v = 0 ∧ d.lo = 0 ∧ d.hi = 0) : T.reply = replyV (d.over m T).ok (d.over m T).v (d.over m T).lo (d.over m T).hi := by
 obtain ⟨h1, h2, h3, h4⟩ := h
 unfold Dd.over
 cases T with
 | pu k =>
  show k.reply = _
  unfold Pu.reply
  by_cases hp : k.ph = 1
  ·rw [if_pos hp, if_pos (show (Wk.pu k).ph = 1 from hp)]
  ·rw [if_neg hp, if_neg (show ¬ (Wk.pu k).ph = 1 from hp), h1, h2, h3, h4]
 | ge k =>
  show k.reply = _
  unfold Ge.reply
  by_cases hp : k.ph = 1
  ·rw [if_pos hp, if_pos (show (Wk.ge k).ph = 1 from hp)]
  ·rw [if_neg hp, if_neg (show ¬ (Wk.ge k).ph = 1 from hp), h1, h2, h3, h4]
end
section
open Go.RowKit
section
variable {W w w' : World} {l : List Thing}
theorem Hold.objSet (h : Hold W w l) (i : Nat) {b : Nat} {xs : List Value} (hi : l[i]? = some (tObj W.heap.size b xs)) (j : Nat) (u : Value) : Hold W (w.setCell ⟨b, j, none⟩ u) (l.set i (tObj W.heap.size b (xs.set j u))) :=
 h.turn i hi ((Keep.refl _ _).own j u |>.mono (fun q hq => hq)) (zAP _ _ _) ⟨(h.has i _ hi).1.set j u, (h.has i _ hi).2⟩ (fun q hq => .inl hq)
theorem Hold.rowSet (h : Hold W w l) (i : Nat) {e : TypeId} {sz n cap g : Nat} {xs : List Value} (hi : l[i]? = some (tRow W.heap.size e sz (.slice (some ⟨g, 0, none⟩) n cap) n xs)) (j : Nat) (u : Value) :
  Hold W (w.setCell ⟨g, j, none⟩ u) (l.set i (tRow W.heap.size e sz (.slice (some ⟨g, 0, none⟩) n cap) n (xs.set j u))) := by
 have hr : w.ownsRow W.heap.size e sz (.slice (some ⟨g, 0, none⟩) n cap) n xs := h.has i _ hi
 have k : Keep (tRow W.heap.size e sz (.slice (some ⟨g, 0, none⟩) n cap) n xs).F w (w.setCell ⟨g, j, none⟩ u) := (Keep.refl _ _).setCell ⟨g, j, none⟩ (by show some g = some g; rfl) u
 exact h.turn i hi k (zAT _ _ _ _ _ _) (hr.stored j u).1 (fun q hq => .inl hq)
end
structure YB where
 yb : Nat
 tb : Nat
 p : Nat
 c : Nat
 t : Int
 s : Int
 so : Int
 d : Int
 T : Nat
def YB.list (B : YB) (vd : Value) (Y : Yd) : List Value := [i64 B.t, i64 B.s, i64 B.so, i64 B.d, pt B.p, .slice (some ⟨B.tb, 0, none⟩) B.T B.T, vd, i64 Y.moves, i64 Y.now]
structure YAt (W w : World) (l : List Thing) (B : YB) (Y : Yd) (J : Nat → Nat) (v vd : Value) (X : List Value) : Prop where
 hold : Hold W w l
 mem : l[0]? = some (tMem W.heap.size B.p B.c v Y.C Y.L)
 obj : l[1]? = some (tObj W.heap.size B.yb (B.list vd Y))
 row : l[2]? = some (tObj W.heap.size B.tb X)
 deeds : l[3]? = some (tRow W.heap.size 39 11 vd Y.ds.length (flatD Y.ds))
 hT : (B.T : Int) = B.t
 xl : X.length = B.T * 2
 tl : Y.ts.length = B.T
 idle : ∀ (k : Nat), Y.ts[k]? = some none → X[k * 2]? = some (.pointer none)
 busy : ∀ (k : Nat) (T : Wk) (i : Nat), Y.ts[k]? = some (some (T, i)) → ∃ y, X[k * 2]? = some (pt y.b) ∧ X[k * 2 + 1]? = some (i64 i) ∧ 4 ≤ J k ∧ l[J k]? = some (wT W.heap.size y) ∧ y.T = T
 inj : ∀ (k k' : Nat) (a a' : Wk × Nat), Y.ts[k]? = some (some a) → Y.ts[k']? = some (some a') → k ≠ k' → J k ≠ J k'
def YH (W w : World) (l : List Thing) (B : YB) (Y : Yd) (J : Nat → Nat) : Prop := ∃ v vd X, YAt W w l B Y J v vd X
def YFree (Y : Yd) (J : Nat → Nat) (j : Nat) : Prop := 4 ≤ j ∧ ∀ (k : Nat) (a : Wk × Nat), Y.ts[k]? = some (some a) → J k ≠ j
structure YGo (Y Y' : Yd) (l l' : List Thing) (J J' : Nat → Nat) : Prop where
 len : l.length ≤ l'.length
 keep : ∀ j A, l[j]? = some A → YFree Y J j → l'[j]? = some A
 free : ∀ j, j < l.length → YFree Y J j → YFree Y' J' j
theorem YGo.refl (Y : Yd) (l : List Thing) (J : Nat → Nat) : YGo Y Y l l J J := ⟨Nat.le_refl _, fun _ _ h _ => h, fun _ _ h => h⟩
theorem YGo.trans {Y Y1 Y2 : Yd} {l l1 l2 : List Thing} {J J1 J2 : Nat → Nat} (a : YGo Y Y1 l l1 J J1) (b : YGo Y1 Y2 l1 l2 J1 J2) : YGo Y Y2 l l2 J J2 :=
 ⟨Nat.le_trans a.len b.len, fun j A h hf => b.keep j A (a.keep j A h hf) (a.free j (List.getElem?_eq_some_iff.1 h).1 hf), fun j h hf => b.free j (Nat.lt_of_lt_of_le h a.len) (a.free j h hf)⟩
section
variable {W w w' : World} {l : List Thing} {B : YB} {Y : Yd} {J : Nat → Nat} {v vd : Value} {X : List Value}
theorem YAt.later (h : YAt W w l B Y J v vd X) (e : Below w.heap.size w w') : YAt W w' l B Y J v vd X := { h with hold := h.hold.later e }
theorem YH.later (h : YH W w l B Y J) (e : Below w.heap.size w w') : YH W w' l B Y J := by
 obtain ⟨v, vd, X, h⟩ := h
 exact ⟨v, vd, X, h.later e⟩
theorem YH.drew (h : YH W w l B Y J) : YH W w.drew l B Y J := h.later (Below.refl _ _).drew
theorem YH.hold (h : YH W w l B Y J) : Hold W w l := by
 obtain ⟨v, vd, X, h⟩ := h
 exact h.hold
theorem YH.below (h : YH W w l B Y J) : Below W.heap.size W w := h.hold.below
theorem YH.size (h : YH W w l B Y J) : W.heap.size ≤ w.heap.size := h.hold.size
theorem YH.fit (h : YH W w l B Y J) : ∀ j, 0 ≤ Y.C.getD j 0 ∧ Y.C.getD j 0 ≤ 18446744073709551615 := by
 obtain ⟨v, vd, X, h⟩ := h
 have hm : IsMem W.heap.size w B.p B.c v Y.C Y.L := h.hold.has 0 _ h.mem
 exact hm.fit
theorem YH.more (h : YH W w l B Y J) {A : Thing} (e : Below w.heap.size w w') (ok : A.Ok W.heap.size) (hP : A.P w') (hF : ∀ q, A.F q → w.heap.size ≤ q) : YH W w' (l ++ [A]) B Y J := by
 obtain ⟨v, vd, X, h⟩ := h
 have up : ∀ {i : Nat} {A' : Thing}, l[i]? = some A' → (l ++ [A])[i]? = some A' := fun hi => by rw [List.getElem?_append_left (List.getElem?_eq_some_iff.1 hi).1]; exact hi
 refine ⟨v, vd, X, h.hold.more e ok hP hF, up h.mem, up h.obj, up h.row, up h.deeds, h.hT, h.xl, h.tl, h.idle, fun k T i hk => ?_, h.inj⟩
 obtain ⟨y, a, b, c, d, f⟩ := h.busy k T i hk
 exact ⟨y, a, b, c, up d, f⟩
theorem YH.other (h : YH W w l B Y J) {l' : List Thing} (hl : Hold W w' l') (hk : ∀ j A, l[j]? = some A → ¬ YFree Y J j → l'[j]? = some A) : YH W w' l' B Y J := by
 obtain ⟨v, vd, X, h⟩ := h
 have low : ∀ {j : Nat}, j < 4 → ¬ YFree Y J j := fun hj hf => by have := hf.1; omega
 refine ⟨v, vd, X, hl, hk _ _ h.mem (low (by omega)), hk _ _ h.obj (low (by omega)), hk _ _ h.row (low (by omega)), hk _ _ h.deeds (low (by omega)), h.hT, h.xl, h.tl, h.idle, fun k T i hk' => ?_, h.inj⟩
 obtain ⟨y, a, b, c, d, f⟩ := h.busy k T i hk'
 exact ⟨y, a, b, c, hk _ _ d (fun hf => hf.2 k _ hk' rfl), f⟩
theorem YAt.objAt (h : YAt W w l B Y J v vd X) : IsObj w B.yb (B.list vd Y) := (h.hold.has 1 _ h.obj).1
theorem YAt.rowAt (h : YAt W w l B Y J v vd X) : IsObj w B.tb X := (h.hold.has 2 _ h.row).1
theorem YAt.ne (h : YAt W w l B Y J v vd X) : B.tb ≠ B.yb := fun e => h.hold.apart 1 2 _ _ h.obj h.row (by omega) B.yb rfl e.symm
theorem YAt.own (h : YAt W w l B Y J v vd X) : w.ownsRow W.heap.size 39 11 vd Y.ds.length (flatD Y.ds) := h.hold.has 3 _ h.deeds
theorem YAt.dne (h : YAt W w l B Y J v vd X) : vd.ownBlock ≠ some B.yb ∧ vd.ownBlock ≠ some B.tb := ⟨fun e => h.hold.apart 1 3 _ _ h.obj h.deeds (by omega) B.yb rfl e, fun e => h.hold.apart 2 3 _ _ h.row h.deeds (by omega) B.tb rfl e⟩
theorem YAt.setMoves (h : YAt W w l B Y J v vd X) (m : Nat) : YAt W (w.setCell ⟨B.yb, 7, none⟩ (i64 m)) (l.set 1 (tObj W.heap.size B.yb (B.list vd { Y with moves := m }))) B { Y with moves := m } J v vd X :=
 ⟨h.hold.objSet 1 h.obj 7 (i64 m), by rw [List.getElem?_set_ne (by omega)]; exact h.mem, List.getElem?_set_self (List.getElem?_eq_some_iff.1 h.obj).1, by rw [List.getElem?_set_ne (by omega)]; exact h.row, by rw [List.getElem?_set_ne (by omega)]; exact h.deeds, h.hT, h.xl, h.tl, h.idle, fun k T i hk => by
  obtain ⟨y, a, b, c, d, f⟩ := h.busy k T i hk
  exact ⟨y, a, b, c, by rw [List.getElem?_set_ne (by omega)]; exact d, f⟩, h.inj⟩
theorem YAt.setNow (h : YAt W w l B Y J v vd X) (n : Int) : YAt W (w.setCell ⟨B.yb, 8, none⟩ (i64 n)) (l.set 1 (tObj W.heap.size B.yb (B.list vd { Y with now := n }))) B { Y with now := n } J v vd X :=
 ⟨h.hold.objSet 1 h.obj 8 (i64 n), by rw [List.getElem?_set_ne (by omega)]; exact h.mem, List.getElem?_set_self (List.getElem?_eq_some_iff.1 h.obj).1, by rw [List.getElem?_set_ne (by omega)]; exact h.row, by rw [List.getElem?_set_ne (by omega)]; exact h.deeds, h.hT, h.xl, h.tl, h.idle, fun k T i hk => by
  obtain ⟨y, a, b, c, d, f⟩ := h.busy k T i hk
  exact ⟨y, a, b, c, by rw [List.getElem?_set_ne (by omega)]; exact d, f⟩, h.inj⟩
theorem YAt.addDeed (h : YAt W w l B Y J v vd X) {w1 : World} {vd' : Value} (dd : Dd) (hG : Grew w w1 W.heap.size 39 11 vd vd' (Y.ds.length + 1) (flatD Y.ds ++ dd.list)) :
  YAt W (w1.setCell ⟨B.yb, 6, none⟩ vd') ((l.set 3 (tRow W.heap.size 39 11 vd' (Y.ds.length + 1) (flatD Y.ds ++ dd.list))).set 1 (tObj W.heap.size B.yb (B.list vd' { Y with ds := Y.ds ++ [dd] }))) B { Y with ds := Y.ds ++ [dd] } J v vd' X := by
 have h1 := h.hold.append 3 rfl h.deeds hG
 have e1 : (l.set 3 (tRow W.heap.size 39 11 vd' (Y.ds.length + 1) (flatD Y.ds ++ dd.list)))[1]? = some (tObj W.heap.size B.yb (B.list vd Y)) := by rw [List.getElem?_set_ne (by omega)]; exact h.obj
 refine ⟨h1.objSet 1 e1 6 vd', by rw [List.getElem?_set_ne (by omega), List.getElem?_set_ne (by omega)]; exact h.mem, List.getElem?_set_self (List.getElem?_eq_some_iff.1 e1).1, by rw [List.getElem?_set_ne (by omega), List.getElem?_set_ne (by omega)]; exact h.row, ?_, h.hT, h.xl, h.tl, h.idle, fun k T i hk => ?_, h.inj⟩
 ·rw [List.getElem?_set_ne (by omega), List.getElem?_set_self (List.getElem?_eq_some_iff.1 h.deeds).1]
  show some (tRow _ _ _ _ _ _) = some (tRow _ _ _ _ (Y.ds ++ [dd]).length (flatD (Y.ds ++ [dd])))
  rw [List.length_append, List.length_singleton, zB8]
  simp [flatD]
 ·obtain ⟨y, a, b, c, d, f⟩ := h.busy k T i hk
  exact ⟨y, a, b, c, by rw [List.getElem?_set_ne (by omega), List.getElem?_set_ne (by omega)]; exact d, f⟩
theorem YAt.begin (h : YAt W w l B Y J v vd X) {A : Nat} {w1 : World} {y : WT} {i : Nat} (hw : Y.ts[A]? = some none) (h1 : Hold W w1 (l ++ [wT W.heap.size y])) :
  YAt W ((w1.setCell ⟨B.tb, A * 2, none⟩ (pt y.b)).setCell ⟨B.tb, A * 2 + 1, none⟩ (i64 i)) ((l ++ [wT W.heap.size y]).set 2 (tObj W.heap.size B.tb ((X.set (A * 2) (pt y.b)).set (A * 2 + 1) (i64 i)))) B { Y with ts := Y.ts.set A (some (y.T, i)) } (fun k => if k = A then l.length else J k) v vd ((X.set (A * 2) (pt y.b)).set (A * 2 + 1) (i64 i)) := by
 have up : ∀ {j : Nat} {A' : Thing}, l[j]? = some A' → (l ++ [wT W.heap.size y])[j]? = some A' := fun hi => by rw [List.getElem?_append_left (List.getElem?_eq_some_iff.1 hi).1]; exact hi
 have hA : A < B.T := by have := (List.getElem?_eq_some_iff.1 hw).1; have := h.tl; omega
 have h4 : 4 ≤ l.length := by have := (List.getElem?_eq_some_iff.1 h.deeds).1; omega
 have h2 := h1.objSet 2 (up h.row) (A * 2) (pt y.b)
 have h3 := h2.objSet 2 (List.getElem?_set_self (List.getElem?_eq_some_iff.1 (up h.row)).1) (A * 2 + 1) (i64 i)
 rw [List.set_set] at h3
 have hxl := h.xl
 have Xget : ∀ j, j ≠ A * 2 → j ≠ A * 2 + 1 → ((X.set (A * 2) (pt y.b)).set (A * 2 + 1) (i64 i))[j]? = X[j]? := fun j a b => by rw [List.getElem?_set_ne (fun e => b e.symm), List.getElem?_set_ne (fun e => a e.symm)]
 refine ⟨h3, by rw [List.getElem?_set_ne (by omega)]; exact up h.mem, by rw [List.getElem?_set_ne (by omega)]; exact up h.obj, List.getElem?_set_self (List.getElem?_eq_some_iff.1 (up h.row)).1, by rw [List.getElem?_set_ne (by omega)]; exact up h.deeds, h.hT, by rw [List.length_set, List.length_set]; exact hxl, by show (Y.ts.set A _).length = _; rw [List.length_set]; exact h.tl, fun k hk => ?_, fun k T j hk => ?_, fun k k' a a' hk hk' hne => ?_⟩
 ·rcases yset hk with ⟨_, he, _⟩ | ⟨hne, hk⟩
  ·cases he
  ·rw [Xget _ (by omega) (by omega)]
   exact h.idle k hk
 ·rcases yset hk with ⟨rfl, he, _⟩ | ⟨hne, hk⟩
  ·cases he
   refine ⟨y, by rw [List.getElem?_set_ne (by omega), List.getElem?_set_self (by omega)], List.getElem?_set_self (by rw [List.length_set]; omega), by simp only [if_true]; exact h4, ?_, rfl⟩
   simp only [if_true]
   rw [List.getElem?_set_ne (by omega), List.getElem?_append_right (Nat.le_refl _), Nat.sub_self]
   rfl
  ·obtain ⟨y', a, b, c, d, f⟩ := h.busy k T j hk
   have hk2 : ¬ k = A := fun e => hne e.symm
   refine ⟨y', by rw [Xget _ (by omega) (by omega)]; exact a, by rw [Xget _ (by omega) (by omega)]; exact b, by simp only [hk2, if_false]; exact c, ?_, f⟩
   simp only [hk2, if_false]
   rw [List.getElem?_set_ne (by omega)]
   exact up d
 ·have lt : ∀ k a, k ≠ A → (Y.ts.set A (some (y.T, i)))[k]? = some (some a) → J k < l.length := fun k a hn hk => by
   rcases yset hk with ⟨e, _, _⟩ | ⟨_, hk⟩
   ·exact absurd e.symm hn
   ·obtain ⟨y', _, _, _, d, _⟩ := h.busy k a.1 a.2 hk
    exact (List.getElem?_eq_some_iff.1 d).1
  by_cases e : k = A
  ·have e' : ¬ k' = A := fun e' => hne (e.trans e'.symm)
   have := lt k' a' e' hk'
   simp only [e, e', if_true, if_false]
   omega
  ·by_cases e' : k' = A
   ·have := lt k a e hk
    simp only [e, e', if_true, if_false]
    omega
   ·simp only [e, e', if_false]
    rcases yset hk with ⟨x, _, _⟩ | ⟨_, hk⟩
    ·exact absurd x.symm e
    ·rcases yset hk' with ⟨x, _, _⟩ | ⟨_, hk'⟩
     ·exact absurd x.symm e'
     ·exact h.inj k k' a a' hk hk' hne
theorem YAt.end (h : YAt W w l B Y J v vd X) {A : Nat} (hA : A < B.T) :
  YAt W (w.setCell ⟨B.tb, A * 2, none⟩ (.pointer none)) (l.set 2 (tObj W.heap.size B.tb (X.set (A * 2) (.pointer none)))) B { Y with ts := Y.ts.set A none } J v vd (X.set (A * 2) (.pointer none)) := by
 have h2 := h.hold.objSet 2 h.row (A * 2) (.pointer none)
 have hxl := h.xl
 refine ⟨h2, by rw [List.getElem?_set_ne (by omega)]; exact h.mem, by rw [List.getElem?_set_ne (by omega)]; exact h.obj, List.getElem?_set_self (List.getElem?_eq_some_iff.1 h.row).1, by rw [List.getElem?_set_ne (by omega)]; exact h.deeds, h.hT, by rw [List.length_set]; exact hxl, by show (Y.ts.set A _).length = _; rw [List.length_set]; exact h.tl, fun k hk => ?_, fun k T j hk => ?_, fun k k' a a' hk hk' hne => ?_⟩
 ·rcases yset hk with ⟨rfl, _, _⟩ | ⟨hne, hk⟩
  ·exact List.getElem?_set_self (by omega)
  ·rw [List.getElem?_set_ne (by omega)]
   exact h.idle k hk
 ·rcases yset hk with ⟨rfl, he, _⟩ | ⟨hne, hk⟩
  ·cases he
  ·obtain ⟨y', a, b, c, d, f⟩ := h.busy k T j hk
   exact ⟨y', by rw [List.getElem?_set_ne (by omega)]; exact a, by rw [List.getElem?_set_ne (by omega)]; exact b, c, by rw [List.getElem?_set_ne (by omega)]; exact d, f⟩
 ·rcases yset hk with ⟨_, he, _⟩ | ⟨_, hk⟩
  ·cases he
  ·rcases yset hk' with ⟨_, he, _⟩ | ⟨_, hk'⟩
   ·cases he
   ·exact h.inj k k' a a' hk hk' hne
theorem YAt.gone (h : YAt W w l B Y J v vd X) {A i : Nat} {T T' : Wk} {y y' : WT} {v' : Value} {C' : List Int} {L' : List Ev} (hw : Y.ts[A]? = some (some (T, i))) (hj : l[J A]? = some (wT W.heap.size y)) (hy : y'.b = y.b) (hT : y'.T = T') (hX : X[A * 2]? = some (pt y.b))
  (h1 : Hold W w' ((l.set 0 (tMem W.heap.size B.p B.c v' C' L')).set (J A) (wT W.heap.size y'))) :
  YAt W w' ((l.set 0 (tMem W.heap.size B.p B.c v' C' L')).set (J A) (wT W.heap.size y')) B { Y with C := C', L := L', ts := Y.ts.set A (some (T', i)) } J v' vd X := by
 obtain ⟨y0, a0, b0, c0, d0, f0⟩ := h.busy A T i hw
 have hA : A < Y.ts.length := (List.getElem?_eq_some_iff.1 hw).1
 refine ⟨h1, by rw [List.getElem?_set_ne (by omega)]; exact List.getElem?_set_self (List.getElem?_eq_some_iff.1 h.mem).1, by rw [List.getElem?_set_ne (by omega), List.getElem?_set_ne (by omega)]; exact h.obj, by rw [List.getElem?_set_ne (by omega), List.getElem?_set_ne (by omega)]; exact h.row, by rw [List.getElem?_set_ne (by omega), List.getElem?_set_ne (by omega)]; exact h.deeds, h.hT, h.xl, by show (Y.ts.set A _).length = _; rw [List.length_set]; exact h.tl, fun k hk => ?_, fun k T2 j hk => ?_, fun k k' a a' hk hk' hne => ?_⟩
 ·rcases yset hk with ⟨_, he, _⟩ | ⟨_, hk⟩
  ·cases he
  ·exact h.idle k hk
 ·rcases yset hk with ⟨rfl, he, _⟩ | ⟨hne, hk⟩
  ·cases he
   exact ⟨y', by rw [hy]; exact hX, b0, c0, List.getElem?_set_self (by rw [List.length_set]; exact (List.getElem?_eq_some_iff.1 hj).1), hT⟩
  ·obtain ⟨y2, a, b, c, d, f⟩ := h.busy k T2 j hk
   have := h.inj k A _ _ hk hw (fun e => hne e.symm)
   exact ⟨y2, a, b, c, by rw [List.getElem?_set_ne (by omega), List.getElem?_set_ne (by omega)]; exact d, f⟩
 ·have back : ∀ q b, (Y.ts.set A (some (T', i)))[q]? = some (some b) → ∃ b', Y.ts[q]? = some (some b') := fun q b hq => by
   rcases yset hq with ⟨rfl, _, _⟩ | ⟨_, hq⟩
   ·exact ⟨_, hw⟩
   ·exact ⟨_, hq⟩
  obtain ⟨b, hb⟩ := back k a hk
  obtain ⟨b', hb'⟩ := back k' a' hk'
  exact h.inj k k' b b' hb hb' hne
theorem YAt.setDeed (h : YAt W w l B Y J v vd X) {i g cap : Nat} {dd dd' : Dd} (hv : vd = .slice (some ⟨g, 0, none⟩) Y.ds.length cap) (hd : Y.ds[i]? = some dd) (hs : dd' = { dd with till := dd'.till, ok := dd'.ok, v := dd'.v, lo := dd'.lo, hi := dd'.hi }) :
  ∃ l', YAt W (((((w.setCell ⟨g, i * 11 + 6, none⟩ (i64 dd'.till)).setCell ⟨g, i * 11 + 7, none⟩ (.bool dd'.ok)).setCell ⟨g, i * 11 + 8, none⟩ (u64 dd'.v)).setCell ⟨g, i * 11 + 9, none⟩ (i64 dd'.lo)).setCell ⟨g, i * 11 + 10, none⟩ (i64 dd'.hi)) l' B { Y with ds := Y.ds.set i dd' } J v vd X ∧ l'.length = l.length ∧ ∀ j A, 4 ≤ j → l[j]? = some A → l'[j]? = some A := by
 subst hv
 have hd3 := (List.getElem?_eq_some_iff.1 h.deeds).1
 have h1 := h.hold.rowSet 3 h.deeds (i * 11 + 6) (i64 dd'.till)
 have h2 := h1.rowSet 3 (List.getElem?_set_self hd3) (i * 11 + 7) (.bool dd'.ok)
 rw [List.set_set] at h2
 have h3 := h2.rowSet 3 (List.getElem?_set_self hd3) (i * 11 + 8) (u64 dd'.v)
 rw [List.set_set] at h3
 have h4 := h3.rowSet 3 (List.getElem?_set_self hd3) (i * 11 + 9) (i64 dd'.lo)
 rw [List.set_set] at h4
 have h5 := h4.rowSet 3 (List.getElem?_set_self hd3) (i * 11 + 10) (i64 dd'.hi)
 rw [List.set_set] at h5
 have hf : (((((flatD Y.ds).set (i * 11 + 6) (i64 dd'.till)).set (i * 11 + 7) (.bool dd'.ok)).set (i * 11 + 8) (u64 dd'.v)).set (i * 11 + 9) (i64 dd'.lo)).set (i * 11 + 10) (i64 dd'.hi) = flatD (Y.ds.set i dd') :=
  zDq [(6, i64 dd'.till), (7, .bool dd'.ok), (8, u64 dd'.v), (9, i64 dd'.lo), (10, i64 dd'.hi)] hd (fun a ha => by
   simp only [List.mem_cons, List.not_mem_nil, or_false] at ha
   rcases ha with rfl | rfl | rfl | rfl | rfl <;> simp) (by rw [hs]; rfl)
 rw [hf] at h5
 refine ⟨_, ⟨h5, by rw [List.getElem?_set_ne (by omega)]; exact h.mem, ?_, by rw [List.getElem?_set_ne (by omega)]; exact h.row, ?_, h.hT, h.xl, h.tl, h.idle, fun k T j hk => ?_, h.inj⟩, List.length_set, fun j A hj hA => by rw [List.getElem?_set_ne (by omega)]; exact hA⟩
 ·rw [List.getElem?_set_ne (by omega)]
  exact h.obj
 ·rw [List.getElem?_set_self hd3]
  show some (tRow _ _ _ _ _ _) = some (tRow _ _ _ _ (Y.ds.set i dd').length (flatD (Y.ds.set i dd')))
  rw [List.length_set]
 ·obtain ⟨y', a, b, c, d, f⟩ := h.busy k T j hk
  exact ⟨y', a, b, c, by rw [List.getElem?_set_ne (by omega)]; exact d, f⟩
end
end
end Go.Proofs.YtpfjommkjkbonabGreat
