/- Contracts and plain lemmas that these laws need. No condition. -/
import Derived.Test.YtebgjfhaolgcjaaGreatProg
import Derived.Test.YtebgjfhaolgcjaaGreatQLD1
import Derived.Test.YtebgjfhaolgcjaaGreatQLD6
import Derived.Test.YtebgjfhaolgcjaaGreatQLD7
namespace Go.Proofs.YtebgjfhaolgcjaaGreat
set_option linter.unusedVariables false
set_option maxHeartbeats 8000000
set_option maxRecDepth 100000
section
open Go.RowKit
structure Dd where
 who : Int
 kd : Int
 e : Int
 x : Int
 s : Int
 fr : Int
 till : Int
 ok : Bool
 v : Int
 lo : Int
 hi : Int
def Dd.list (d : Dd) : List Value := [i64 d.who, i64 d.kd, i64 d.e, u64 d.x, i64 d.s, i64 d.fr, i64 d.till, .bool d.ok, u64 d.v, i64 d.lo, i64 d.hi]
def flatD : List Dd → List Value
 | [] => []
 | d :: l => d.list ++ flatD l
theorem zB3 : ∀ a b : List Dd, flatD (a ++ b) = flatD a ++ flatD b
 | [], _ => rfl
 | d :: a, b => by simp [flatD, zB3 a b]
theorem zB2 : ∀ l : List Dd, (flatD l).length = l.length * 11
 | [] => rfl
 | d :: l => by simp only [flatD, List.length_append, List.length_cons, zB2 l, Dd.list, List.length_nil]; omega
theorem Dd.one (d : Dd) (u : Value) (h : u ∈ d.list) : u.oneCell' = true := by
 simp only [Dd.list, List.mem_cons, List.not_mem_nil, or_false] at h
 rcases h with rfl | rfl | rfl | rfl | rfl | rfl | rfl | rfl | rfl | rfl | rfl <;> rfl
theorem zDe : ∀ (l : List Dd) (u : Value), u ∈ flatD l → u.oneCell' = true
 | [], _, h => by cases h
 | d :: l, u, h => by
  rw [flatD, List.mem_append] at h
  rcases h with h | h
  ·exact d.one u h
  ·exact zDe l u h
theorem zDM : ∀ {l : List Dd} {i j : Nat} {d : Dd}, l[i]? = some d → j < 11 → (flatD l)[i * 11 + j]? = d.list[j]?
 | [], i, j, d, h, hj => by simp at h
 | e :: l, 0, j, d, h, hj => by
  cases h
  rw [flatD, Nat.zero_mul, Nat.zero_add, List.getElem?_append_left (by exact hj)]
 | e :: l, i + 1, j, d, h, hj => by
  rw [List.getElem?_cons_succ] at h
  rw [flatD, List.getElem?_append_right (by show 11 ≤ _; omega), show (i + 1) * 11 + j - e.list.length = i * 11 + j by show (i + 1) * 11 + j - 11 = _; omega]
  exact zDM h hj
theorem zDn : ∀ {l : List Dd} {i : Nat} {d d' : Dd} (us : List (Nat × Value)), l[i]? = some d → (∀ a ∈ us, a.1 < 11) → us.foldl (fun x a => x.set a.1 a.2) d.list = d'.list → us.foldl (fun x a => x.set (i * 11 + a.1) a.2) (flatD l) = flatD (l.set i d')
 | [], i, d, d', us, h, _, _ => by simp at h
 | e :: l, 0, d, d', us, h, hj, hu => by
  cases h
  rw [List.set_cons_zero, flatD, flatD, ← hu]
  clear hu
  have key : ∀ (x : List Value), x.length = 11 → us.foldl (fun x a => x.set (0 * 11 + a.1) a.2) (x ++ flatD l) = us.foldl (fun x a => x.set a.1 a.2) x ++ flatD l := by
   induction us with
   | nil => intro x _; rfl
   | cons a us ih =>
    intro x hx
    have ha := hj a (List.mem_cons_self)
    rw [List.foldl_cons, List.foldl_cons, Nat.zero_mul, Nat.zero_add, List.set_append_left _ _ (by omega)]
    exact ih (fun b hb => hj b (List.mem_cons_of_mem _ hb)) _ (by rw [List.length_set]; exact hx)
  exact key _ rfl
 | e :: l, i + 1, d, d', us, h, hj, hu => by
  rw [List.getElem?_cons_succ] at h
  rw [List.set_cons_succ, flatD, flatD, ← zDn us h hj hu]
  clear hu
  have key : ∀ (y : List Value), us.foldl (fun x a => x.set ((i + 1) * 11 + a.1) a.2) (e.list ++ y) = e.list ++ us.foldl (fun x a => x.set (i * 11 + a.1) a.2) y := by
   induction us with
   | nil => intro x; rfl
   | cons a us ih =>
    intro y
    have h11 : e.list.length = 11 := rfl
    rw [List.foldl_cons, List.foldl_cons, List.set_append_right _ _ (by omega), show (i + 1) * 11 + a.1 - e.list.length = i * 11 + a.1 by omega]
    exact ih (fun b hb => hj b (List.mem_cons_of_mem _ hb)) _
  exact key _
theorem zCl {α : Type} {l : List α} {i : Nat} {f : α → α} {d : α} (h : l[i]? = some d) : l.modify i f = l.set i (f d) := by
 refine List.ext_getElem? (fun j => ?_)
 rw [List.getElem?_modify, List.getElem?_set]
 by_cases e : i = j
 ·subst e
  rw [h, if_pos rfl, if_pos (List.getElem?_eq_some_iff.1 h).1]
  simp
 ·rw [if_neg e]
  cases l[j]? <;> simp [e]
theorem zGU : ElemAt Tryz.prog 57 77 (.agg #[.int .i64 0, .int .i64 0, .int .i64 0, .int .u64 0, .int .i64 0, .int .i64 0, .int .i64 0, .bool false, .int .u64 0, .int .i64 0, .int .i64 0]) 11 88 :=
 ElemAt.mk' Tryz.underlying57 (by kernel_rfl) rfl (by decide)
structure AtDd (w : World) (b o : Nat) (d : Dd) : Prop where
 c0 : w.cell? ⟨b, o, none⟩ = some (i64 d.who)
 c1 : w.cell? ⟨b, o + 1, none⟩ = some (i64 d.kd)
 c2 : w.cell? ⟨b, o + 2, none⟩ = some (i64 d.e)
 c3 : w.cell? ⟨b, o + 3, none⟩ = some (u64 d.x)
 c4 : w.cell? ⟨b, o + 4, none⟩ = some (i64 d.s)
 c5 : w.cell? ⟨b, o + 5, none⟩ = some (i64 d.fr)
 c6 : w.cell? ⟨b, o + 6, none⟩ = some (i64 d.till)
 c7 : w.cell? ⟨b, o + 7, none⟩ = some (.bool d.ok)
 c8 : w.cell? ⟨b, o + 8, none⟩ = some (u64 d.v)
 c9 : w.cell? ⟨b, o + 9, none⟩ = some (i64 d.lo)
 c10 : w.cell? ⟨b, o + 10, none⟩ = some (i64 d.hi)
structure AtBd (w : World) (b : Nat) (d : Dd) : Prop where
 c0 : w.cell? ⟨b, 0, none⟩ = some (i64 d.who)
 c1 : w.cell? ⟨b, 1, none⟩ = some (i64 d.kd)
 c2 : w.cell? ⟨b, 2, none⟩ = some (i64 d.e)
 c3 : w.cell? ⟨b, 3, none⟩ = some (u64 d.x)
 c4 : w.cell? ⟨b, 4, none⟩ = some (i64 d.s)
 c5 : w.cell? ⟨b, 5, none⟩ = some (i64 d.fr)
 c6 : w.cell? ⟨b, 6, none⟩ = some (i64 d.till)
 c7 : w.cell? ⟨b, 7, none⟩ = some (.bool d.ok)
 c8 : w.cell? ⟨b, 8, none⟩ = some (u64 d.v)
 c9 : w.cell? ⟨b, 9, none⟩ = some (i64 d.lo)
 c10 : w.cell? ⟨b, 10, none⟩ = some (i64 d.hi)
abbrev Dd.val (d : Dd) : Value := .agg #[.int .i64 d.who, .int .i64 d.kd, .int .i64 d.e, .int .u64 d.x, .int .i64 d.s, .int .i64 d.fr, .int .i64 d.till, .bool d.ok, .int .u64 d.v, .int .i64 d.lo, .int .i64 d.hi]
abbrev Dd.obj (d : Dd) (T : TypeId) : Obj := .cells #[.int .i64 d.who, .int .i64 d.kd, .int .i64 d.e, .int .u64 d.x, .int .i64 d.s, .int .i64 d.fr, .int .i64 d.till, .bool d.ok, .int .u64 d.v, .int .i64 d.lo, .int .i64 d.hi] T
theorem AtBd.made (w : World) (d : Dd) (T : TypeId) : AtBd (w.alloc (d.obj T)) w.heap.size d := ⟨by simp, by simp, by simp, by simp, by simp, by simp, by simp, by simp, by simp, by simp, by simp⟩
theorem AtBd.lt {w : World} {b : Nat} {d : Dd} (h : AtBd w b d) : b < w.heap.size := World.block_lt_of_cell? w _ h.c0
theorem AtBd.later {w w' : World} {b : Nat} {d : Dd} (h : AtBd w b d) (e : Below w.heap.size w w') : AtBd w' b d :=
 have k : ∀ j, w'.cell? ⟨b, j, none⟩ = w.cell? ⟨b, j, none⟩ := fun j => e.cell (p := ⟨b, j, none⟩) h.lt
 ⟨(k _).trans h.c0, (k _).trans h.c1, (k _).trans h.c2, (k _).trans h.c3, (k _).trans h.c4, (k _).trans h.c5, (k _).trans h.c6, (k _).trans h.c7, (k _).trans h.c8, (k _).trans h.c9, (k _).trans h.c10⟩
theorem AtBd.kept {w w' : World} {b : Nat} {d : Dd} {row : Option Nat} (h : AtBd w b d) (e : w.grownBy w' row) (hr : some b ≠ row) : AtBd w' b d :=
 have k : ∀ j, w'.cell? ⟨b, j, none⟩ = w.cell? ⟨b, j, none⟩ := fun j => World.cell?_of_block (e.block b h.lt hr)
 ⟨(k _).trans h.c0, (k _).trans h.c1, (k _).trans h.c2, (k _).trans h.c3, (k _).trans h.c4, (k _).trans h.c5, (k _).trans h.c6, (k _).trans h.c7, (k _).trans h.c8, (k _).trans h.c9, (k _).trans h.c10⟩
theorem AtDd.row {w : World} {base cap g i : Nat} {ds : List Dd} {d : Dd} (h : w.ownsRow base 77 11 (.slice (some ⟨g, 0, none⟩) ds.length cap) ds.length (flatD ds)) (hd : ds[i]? = some d) : AtDd w g (i * 11) d :=
 have hi := (List.getElem?_eq_some_iff.1 hd).1
 have k : ∀ j u, j < 11 → d.list[j]? = some u → w.cell? ⟨g, i * 11 + j, none⟩ = some u := fun j u hj hu => (h.cellAt _ (by omega)).trans ((zDM hd hj).trans hu)
 ⟨k 0 _ (by decide) rfl, k 1 _ (by decide) rfl, k 2 _ (by decide) rfl, k 3 _ (by decide) rfl, k 4 _ (by decide) rfl, k 5 _ (by decide) rfl, k 6 _ (by decide) rfl, k 7 _ (by decide) rfl, k 8 _ (by decide) rfl, k 9 _ (by decide) rfl, k 10 _ (by decide) rfl⟩
theorem AtDd.later {w w' : World} {b o : Nat} {d : Dd} (h : AtDd w b o d) (e : Below w.heap.size w w') : AtDd w' b o d :=
 have hb := World.block_lt_of_cell? w _ h.c0
 have k : ∀ j, w'.cell? ⟨b, j, none⟩ = w.cell? ⟨b, j, none⟩ := fun j => e.cell (p := ⟨b, j, none⟩) hb
 ⟨(k _).trans h.c0, (k _).trans h.c1, (k _).trans h.c2, (k _).trans h.c3, (k _).trans h.c4, (k _).trans h.c5, (k _).trans h.c6, (k _).trans h.c7, (k _).trans h.c8, (k _).trans h.c9, (k _).trans h.c10⟩
theorem zET {w : World} {base : Nat} {e : TypeId} {sz n cap : Nat} {A : Option Addr} {xs : List Value} (h : w.ownsRow base e sz (.slice A n cap) n xs) : n ≤ cap := by
 rcases h.2 with ⟨hv, h0⟩ | ⟨g, cap', cur, hv, _, _, hc, _⟩
 ·omega
 ·cases hv
  exact hc
theorem zHT {w : World} {base : Nat} {g cap : Nat} {L : List Dd} (h : w.ownsRow base 77 11 (.slice (some ⟨g, 0, none⟩) L.length cap) L.length (flatD L)) : Src w 11 (some ⟨g, 0, none⟩) L.length (flatD L) :=
 ⟨(fun h => by cases h), zB2 L, fun ad had j u hj => by cases had; exact h.cells rfl j u hj, zDe L⟩
theorem AtDd.later' {w w' : World} {tb o B : Nat} {d : Dd} (h : AtDd w tb o d) (e : Below B w w') (hB : tb < B) : AtDd w' tb o d :=
 have k : ∀ j, w'.cell? ⟨tb, j, none⟩ = w.cell? ⟨tb, j, none⟩ := fun j => e.cell (p := ⟨tb, j, none⟩) hB
 ⟨(k _).trans h.c0, (k _).trans h.c1, (k _).trans h.c2, (k _).trans h.c3, (k _).trans h.c4, (k _).trans h.c5, (k _).trans h.c6, (k _).trans h.c7, (k _).trans h.c8, (k _).trans h.c9, (k _).trans h.c10⟩
structure Dd.Fit (d : Dd) : Prop where
 who : (Lit.int .i64 d.who).wf = true
 f0 : -9223372036854775808 ≤ d.fr
 f1 : d.fr ≤ 9223372036854775807
 t0 : -9223372036854775808 ≤ d.till
 t1 : d.till ≤ 9223372036854775807
structure Dd.FitV (d : Dd) : Prop where
 x0 : 0 ≤ d.x
 x1 : d.x ≤ 18446744073709551615
 v0 : 0 ≤ d.v
 v1 : d.v ≤ 18446744073709551615
def IsDds (w : World) (a0 : Option Addr) (len cap tb off : Nat) (l : List Dd) : Prop :=
 l.length = len ∧ len ≤ cap ∧ (0 < len → a0 = some ⟨tb, off, none⟩ ∧ tb < w.heap.size) ∧ ∀ (i : Nat) (d : Dd), l[i]? = some d → AtDd w tb (off + i * 11) d ∧ d.Fit
theorem IsDds.later {w w' : World} {a : Option Addr} {len cap tb off B : Nat} {l : List Dd} (h : IsDds w a len cap tb off l) (e : Below B w w') (hB : 0 < len → tb < B) : IsDds w' a len cap tb off l := by
 obtain ⟨h1, h2, h3, h4⟩ := h
 refine ⟨h1, h2, fun hp => ⟨(h3 hp).1, ?_⟩, fun i d hd => ?_⟩
 ·obtain ⟨d, hd⟩ : ∃ d, l[0]? = some d := ⟨_, List.getElem?_eq_getElem (by omega)⟩
  exact World.block_lt_of_cell? w' _ ((h4 0 d hd).1.later' e (hB hp)).c0
 ·have hp : 0 < len := by have := (List.getElem?_eq_some_iff.1 hd).1; omega
  exact ⟨(h4 i d hd).1.later' e (hB hp), (h4 i d hd).2⟩
end
section
open Go.RowKit
structure Yd where
 C : List Int
 L : List Ev
 now : Int
 moves : Nat
 ts : List (Option (Wk × Nat))
 ds : List Dd
def yMax : Int := 1099511627776
def Yd.call (Y : Yd) (w : Nat) (kd e x s : Int) (T : Wk) : Yd :=
 { Y with moves := Y.moves + 1, ts := Y.ts.set w (some (T, Y.ds.length)), ds := Y.ds ++ [⟨w, kd, e, x, s, Y.moves, -1, false, 0, 0, 0⟩] }
def Dd.over (d : Dd) (m : Nat) (T : Wk) : Dd := if T.ph = 1 then { d with till := m, ok := true, v := (match T with | .pu _ => 0 | .ge k => k.val), lo := (match T with | .pu k => k.tk.lo | .ge _ => 0), hi := (match T with | .pu k => k.tk.hi | .ge _ => 0) } else { d with till := m }
def Yd.tick (Y : Yd) : Int := if Y.now < yMax then Y.now + 1 else yMax
def Yd.step (Y : Yd) (P : Pl) (w : Nat) (T : Wk) (i : Nat) (z : Int) : Yd :=
 ⟨T.cells P Y.C Y.now, Y.L ++ T.ev P Y.C Y.now, Y.tick, Y.moves + 1,
  if (T.step P Y.C Y.now z).ph = 0 then Y.ts.set w (some (T.step P Y.C Y.now z, i)) else Y.ts.set w none,
  if (T.step P Y.C Y.now z).ph = 0 then Y.ds else Y.ds.modify i (fun d => d.over Y.moves (T.step P Y.C Y.now z))⟩
def Yd.pass (Y : Yd) (n : Int) : Yd := { Y with now := if n > yMax - Y.now then yMax else Y.now + n }
inductive YMv (pl : Nat → Pl) (Y : Yd) : Yd → Prop
 | rest : YMv pl Y Y
 | call (w : Nat) (kd e x s : Int) (T : Wk) (hw : Y.ts[w]? = some none) (hk : T.Ok (pl w) Y.C) (h0 : T.few 0) (hb : T.by' w) (hp : T.ph = 0) (hr : (kd = 0 ∨ kd = 1) ∧ (e = 0 ∨ e = 1)) : YMv pl Y (Y.call w kd e x s T)
 | step (w : Nat) (T : Wk) (i : Nat) (z : Int) (hw : Y.ts[w]? = some (some (T, i))) (ha : T.ask Y.C z) : YMv pl Y (Y.step (pl w) w T i z)
 | pass (n : Int) (hn : 0 < n) : YMv pl Y (Y.pass n)
structure YOk (pl : Nat → Pl) (t n : Nat) (Y : Yd) : Prop where
 len : Y.ts.length = t
 task : ∀ (w : Nat) (T : Wk) (i : Nat), Y.ts[w]? = some (some (T, i)) → T.Ok (pl w) Y.C ∧ T.few n ∧ T.by' w ∧ T.ph = 0 ∧ ∃ d : Dd, Y.ds[i]? = some d ∧ d.who = w ∧ d.till = -1 ∧ d.ok = false ∧ d.v = 0 ∧ d.lo = 0 ∧ d.hi = 0
 now0 : 0 ≤ Y.now
 now1 : Y.now ≤ yMax
 deed : ∀ (i : Nat) (d : Dd), Y.ds[i]? = some d → (∃ w : Nat, d.who = w ∧ w < t ∧ (d.till = -1 → ∃ T, Y.ts[w]? = some (some (T, i)))) ∧ 0 ≤ d.fr ∧ d.fr < Y.moves ∧ (d.till ≠ -1 → d.fr < d.till ∧ d.till < Y.moves)
 order : ∀ (i j : Nat) (d d' : Dd), i < j → Y.ds[i]? = some d → Y.ds[j]? = some d' → d.fr < d'.fr ∧ (d.who = d'.who → d.till ≠ -1 ∧ d.till < d'.fr)
 most : Y.moves ≤ n
 nds : Y.ds.length ≤ Y.moves
 nL : Y.L.length ≤ Y.moves
section
variable {pl : Nat → Pl} {t n : Nat} {Y Y' : Yd}
theorem YOk.start (C : List Int) (t : Nat) : YOk pl t 0 ⟨C, [], 0, 0, List.replicate t none, []⟩ :=
 ⟨List.length_replicate, (fun w T i h => by
  rw [List.getElem?_replicate] at h
  split at h <;> cases h), Int.le_refl _, by show (0 : Int) ≤ yMax; decide, (fun i d h => by simp at h), (fun i j d d' _ h => by simp at h), Nat.le_refl _, Nat.le_refl _, Nat.le_refl _⟩
theorem Dd.over_same (d : Dd) (m : Nat) (T : Wk) : (d.over m T).who = d.who ∧ (d.over m T).kd = d.kd ∧ (d.over m T).e = d.e ∧ (d.over m T).x = d.x ∧ (d.over m T).s = d.s ∧ (d.over m T).fr = d.fr ∧ (d.over m T).till = m := by
 unfold Dd.over
 split <;> exact ⟨rfl, rfl, rfl, rfl, rfl, rfl, rfl⟩
theorem Yd.tick_fit (h0 : 0 ≤ Y.now) (h1 : Y.now ≤ yMax) : 0 ≤ Y.tick ∧ Y.tick ≤ yMax := by
 have e : yMax = 1099511627776 := rfl
 unfold Yd.tick
 split <;> omega
theorem zBi {ds : List Dd} {i : Nat} {f : Dd → Dd} {d : Dd} (h : ds[i]? = some d) : (ds.modify i f)[i]? = some (f d) := by
 rw [List.getElem?_modify, h]
 simp
theorem zBn {ds : List Dd} {i j : Nat} {f : Dd → Dd} (e : i ≠ j) : (ds.modify i f)[j]? = ds[j]? := by
 rw [List.getElem?_modify]
 cases ds[j]? <;> simp [e]
theorem ymod {ds : List Dd} {i j : Nat} {f : Dd → Dd} {d : Dd} (h : (ds.modify i f)[j]? = some d) : (i = j ∧ ∃ d0, ds[j]? = some d0 ∧ d = f d0) ∨ (i ≠ j ∧ ds[j]? = some d) := by
 by_cases e : i = j
 ·subst e
  cases hd : ds[i]? with
  | none =>
   rw [List.getElem?_modify, hd] at h
   cases h
  | some d0 =>
   rw [zBi hd] at h
   cases h
   exact .inl ⟨rfl, d0, rfl, rfl⟩
 ·rw [zBn e] at h
  exact .inr ⟨e, h⟩
theorem yset {α : Type} {l : List α} {i j : Nat} {a b : α} (h : (l.set i a)[j]? = some b) : (i = j ∧ b = a ∧ j < l.length) ∨ (i ≠ j ∧ l[j]? = some b) := by
 rw [List.getElem?_set] at h
 split at h
 ·rename_i e
  split at h
  ·rename_i hl
   cases h
   exact .inl ⟨e, rfl, by omega⟩
  ·cases h
 ·rename_i e
  exact .inr ⟨e, h⟩
theorem ysnoc {α : Type} {l : List α} {j : Nat} {a b : α} (h : (l ++ [a])[j]? = some b) : (j = l.length ∧ b = a) ∨ (j < l.length ∧ l[j]? = some b) := by
 rcases Nat.lt_or_ge j l.length with hj | hj
 ·rw [List.getElem?_append_left hj] at h
  exact .inr ⟨hj, h⟩
 ·rw [List.getElem?_append_right hj] at h
  rcases (by omega : j - l.length = 0 ∨ 0 < j - l.length) with e | e
  ·rw [e] at h
   cases h
   exact .inl ⟨by omega, rfl⟩
  ·rw [List.getElem?_eq_none (by show 1 ≤ _; omega)] at h
   cases h
theorem YOk.next (h : YOk pl t n Y) (hm : YMv pl Y Y') (hn : n < 1000000) (hf : ∀ j, 0 ≤ Y.C.getD j 0 ∧ Y.C.getD j 0 ≤ 18446744073709551615) : YOk pl t (n + 1) Y' := by
 obtain ⟨len, task, now0, now1, deed, order, most, nds, nL⟩ := id h
 cases hm with
 | rest => exact ⟨len, fun w T i hw => by obtain ⟨a, b, c⟩ := task w T i hw; exact ⟨a, b.mono (Nat.le_succ _), c⟩, now0, now1, deed, order, by omega, nds, nL⟩
 | pass k hk =>
  refine ⟨len, fun w T i hw => by obtain ⟨a, b, c⟩ := task w T i hw; exact ⟨a, b.mono (Nat.le_succ _), c⟩, ?_, ?_, deed, order, by show Y.moves ≤ n + 1; omega, nds, nL⟩
  ·show (0 : Int) ≤ if k > yMax - Y.now then yMax else Y.now + k
   have e : yMax = 1099511627776 := rfl
   split <;> omega
  ·show (if k > yMax - Y.now then yMax else Y.now + k) ≤ yMax
   split <;> omega
 | call w kd e x s T hw hk h0 hb hp hr =>
  have hwl : w < Y.ts.length := (List.getElem?_eq_some_iff.1 hw).1
  refine ⟨by show (Y.ts.set w _).length = t; rw [List.length_set]; exact len, fun w' T' i hw' => ?_, now0, now1, fun i d hd => ?_, fun i j d d' hij hd hd' => ?_, by show Y.moves + 1 ≤ n + 1; omega, by show (Y.ds ++ [_]).length ≤ Y.moves + 1; rw [List.length_append, List.length_singleton]; omega, by show Y.L.length ≤ Y.moves + 1; omega⟩
  ·rcases yset hw' with ⟨rfl, he, _⟩ | ⟨hne, hw2⟩
   ·cases he
    exact ⟨hk, h0.mono (Nat.zero_le _), hb, hp, _, by show (Y.ds ++ [_])[Y.ds.length]? = _; rw [List.getElem?_append_right (Nat.le_refl _), Nat.sub_self]; rfl, rfl, rfl, rfl, rfl, rfl, rfl⟩
   ·obtain ⟨a, b, c, d0, d, hd, hd2⟩ := task w' T' i hw2
    exact ⟨a, b.mono (Nat.le_succ _), c, d0, d, by show (Y.ds ++ [_])[i]? = _; rw [List.getElem?_append_left (List.getElem?_eq_some_iff.1 hd).1]; exact hd, hd2⟩
  ·rcases ysnoc hd with ⟨rfl, rfl⟩ | ⟨hi, hd⟩
   ·exact ⟨⟨w, rfl, by omega, fun _ => ⟨T, List.getElem?_set_self hwl⟩⟩, by show (0 : Int) ≤ (Y.moves : Int); omega, by show (Y.moves : Int) < ((Y.moves + 1 : Nat) : Int); omega, fun h => absurd rfl h⟩
   ·obtain ⟨⟨w', g1, g2, g3⟩, g4, g5, g6⟩ := deed i d hd
    refine ⟨⟨w', g1, g2, fun ht => ?_⟩, g4, by show d.fr < ((Y.moves + 1 : Nat) : Int); omega, fun ht => by have := g6 ht; exact ⟨this.1, by show d.till < ((Y.moves + 1 : Nat) : Int); omega⟩⟩
    obtain ⟨T', hT'⟩ := g3 ht
    refine ⟨T', ?_⟩
    show (Y.ts.set w _)[w']? = _
    rw [List.getElem?_set_ne (fun e => by rw [e] at hw; rw [hw] at hT'; cases hT')]
    exact hT'
  ·rcases ysnoc hd' with ⟨rfl, rfl⟩ | ⟨hj, hd'⟩
   ·rcases ysnoc hd with ⟨rfl, rfl⟩ | ⟨hi, hd⟩
    ·omega
    ·obtain ⟨⟨w', g1, g2, g3⟩, g4, g5, g6⟩ := deed i d hd
     refine ⟨g5, fun he => ?_⟩
     have hww : w' = w := by
      have he' : d.who = (w : Int) := he
      omega
     have ht : d.till ≠ -1 := fun ht => by
      obtain ⟨T', hT'⟩ := g3 ht
      rw [hww, hw] at hT'
      cases hT'
     exact ⟨ht, (g6 ht).2⟩
   ·rcases ysnoc hd with ⟨rfl, rfl⟩ | ⟨hi, hd⟩
    ·omega
    ·exact order i j d d' hij hd hd'
 | step w T i z hw ha =>
  have hwl : w < Y.ts.length := (List.getElem?_eq_some_iff.1 hw).1
  obtain ⟨k1, k2, k3, k4, d0, k5, k6, k7⟩ := task w T i hw
  obtain ⟨o1, o2⟩ := k1.next k2 hn ha now0 hf
  have o3 : (T.step (pl w) Y.C Y.now z).by' w := Wk.by_step k3
  have hcl : (T.cells (pl w) Y.C Y.now).length = Y.C.length := Wk.cells_len
  have hev : (T.ev (pl w) Y.C Y.now).length ≤ 1 := Wk.ev_le
  have htick := Yd.tick_fit now0 now1
  have huni : ∀ w' T', Y.ts[w']? = some (some (T', i)) → w' = w := fun w' T' h' => by
   obtain ⟨_, _, _, _, d', g1, g2, _⟩ := task w' T' i h'
   rw [k5] at g1
   cases g1
   omega
  unfold Yd.step
  generalize T.step (pl w) Y.C Y.now z = T2 at o1 o2 o3 ⊢
  generalize T.cells (pl w) Y.C Y.now = C2 at o1 hcl ⊢
  generalize T.ev (pl w) Y.C Y.now = E at hev ⊢
  have hL : (Y.L ++ E).length ≤ Y.moves + 1 := by rw [List.length_append]; omega
  by_cases hp : T2.ph = 0
  ·rw [if_pos hp, if_pos hp]
   refine ⟨by show (Y.ts.set w _).length = t; rw [List.length_set]; exact len, fun w' T' i' hw' => ?_, htick.1, htick.2, fun i' d hd => ?_, order, by show Y.moves + 1 ≤ n + 1; omega, by show Y.ds.length ≤ Y.moves + 1; omega, hL⟩
   ·rcases yset hw' with ⟨rfl, he, _⟩ | ⟨hne, hw2⟩
    ·cases he
     exact ⟨o1, o2, o3, hp, d0, k5, k6, k7⟩
    ·obtain ⟨a, b, c⟩ := task w' T' i' hw2
     exact ⟨a.cells hcl, b.mono (Nat.le_succ _), c⟩
   ·obtain ⟨⟨w', g1, g2, g3⟩, g4, g5, g6⟩ := deed i' d hd
    refine ⟨⟨w', g1, g2, fun ht => ?_⟩, g4, by show d.fr < ((Y.moves + 1 : Nat) : Int); omega, fun ht => by have := g6 ht; exact ⟨this.1, by show d.till < ((Y.moves + 1 : Nat) : Int); omega⟩⟩
    obtain ⟨T', hT'⟩ := g3 ht
    by_cases hww : w = w'
    ·subst hww
     rw [hw] at hT'
     cases hT'
     exact ⟨T2, List.getElem?_set_self hwl⟩
    ·exact ⟨T', by show (Y.ts.set w _)[w']? = _; rw [List.getElem?_set_ne hww]; exact hT'⟩
  ·rw [if_neg hp, if_neg hp]
   refine ⟨by show (Y.ts.set w _).length = t; rw [List.length_set]; exact len, fun w' T' i' hw' => ?_, htick.1, htick.2, fun i' d hd => ?_, fun i1 j1 d d' hij hd hd' => ?_, by show Y.moves + 1 ≤ n + 1; omega, by show (Y.ds.modify i _).length ≤ Y.moves + 1; rw [List.length_modify]; omega, hL⟩
   ·rcases yset hw' with ⟨rfl, he, _⟩ | ⟨hne, hw2⟩
    ·cases he
    ·obtain ⟨a, b, c, c2, d, hd, hd2⟩ := task w' T' i' hw2
     have hii : i ≠ i' := fun e => by
      subst e
      exact hne (huni w' T' hw2).symm
     exact ⟨a.cells hcl, b.mono (Nat.le_succ _), c, c2, d, by show (Y.ds.modify i _)[i']? = _; rw [zBn hii]; exact hd, hd2⟩
   ·rcases ymod hd with ⟨rfl, d1, hd1, rfl⟩ | ⟨hne, hd⟩
    ·rw [k5] at hd1
     cases hd1
     obtain ⟨s1, _, _, _, _, s6, s7⟩ := Dd.over_same d0 Y.moves T2
     obtain ⟨⟨w', g1, g2, g3⟩, g4, g5, g6⟩ := deed i d0 k5
     refine ⟨⟨w', s1.trans g1, g2, fun ht => ?_⟩, by rw [s6]; exact g4, by rw [s6]; show d0.fr < ((Y.moves + 1 : Nat) : Int); omega, fun _ => ?_⟩
     ·rw [s7] at ht
      omega
     ·rw [s6, s7]
      exact ⟨g5, by show (Y.moves : Int) < ((Y.moves + 1 : Nat) : Int); omega⟩
    ·obtain ⟨⟨w', g1, g2, g3⟩, g4, g5, g6⟩ := deed i' d hd
     refine ⟨⟨w', g1, g2, fun ht => ?_⟩, g4, by show d.fr < ((Y.moves + 1 : Nat) : Int); omega, fun ht => by have := g6 ht; exact ⟨this.1, by show d.till < ((Y.moves + 1 : Nat) : Int); omega⟩⟩
     obtain ⟨T', hT'⟩ := g3 ht
     by_cases hww : w = w'
     ·subst hww
      rw [hw] at hT'
      cases hT'
      exact absurd rfl hne
     ·exact ⟨T', by show (Y.ts.set w _)[w']? = _; rw [List.getElem?_set_ne hww]; exact hT'⟩
   ·have hset : ∀ {j2 : Nat} {d2 : Dd}, (Y.ds.modify i (fun d => d.over Y.moves T2))[j2]? = some d2 → ∃ d3, Y.ds[j2]? = some d3 ∧ d2.fr = d3.fr ∧ d2.who = d3.who ∧ (d2.till = d3.till ∨ (j2 = i ∧ d3.till = -1)) := fun {j2 d2} h2 => by
     rcases ymod h2 with ⟨rfl, d1, hd1, rfl⟩ | ⟨hne, h3⟩
     ·obtain ⟨s1, _, _, _, _, s6, s7⟩ := Dd.over_same d1 Y.moves T2
      refine ⟨d1, hd1, s6, s1, .inr ⟨rfl, ?_⟩⟩
      rw [k5] at hd1
      cases hd1
      exact k7.1
     ·exact ⟨d2, h3, rfl, rfl, .inl rfl⟩
    obtain ⟨e1, f1, f2, f3, f4⟩ := hset hd
    obtain ⟨e2, p1, p2, p3, p4⟩ := hset hd'
    obtain ⟨q1, q2⟩ := order i1 j1 e1 e2 hij f1 p1
    refine ⟨by rw [f2, p2]; exact q1, fun he => ?_⟩
    obtain ⟨r1, r2⟩ := q2 (by rw [← f3, ← p3]; exact he)
    rcases f4 with f4 | ⟨_, f4⟩
    ·rw [f4, p2]
     exact ⟨r1, r2⟩
    ·exact absurd f4 r1
theorem YMv.noted (h : YOk pl t n Y) (hm : YMv pl Y Y') : ∃ (w : Nat) (E : List Ev), Noted w Y.C Y'.C E ∧ Y'.L = Y.L ++ E ∧ (E ≠ [] → ∃ T i z, Y.ts[w]? = some (some (T, i)) ∧ Y' = Y.step (pl w) w T i z) := by
 cases hm with
 | rest => exact ⟨0, [], zAT, (List.append_nil _).symm, fun h => absurd rfl h⟩
 | pass k hk => exact ⟨0, [], zAT, (List.append_nil _).symm, fun h => absurd rfl h⟩
 | call w kd e x s T hw hk h0 hb hp hr => exact ⟨0, [], zAT, (List.append_nil _).symm, fun h => absurd rfl h⟩
 | step w T i z hw ha =>
  obtain ⟨k1, k2, k3, k4, d0, k5, k6, k7⟩ := h.task w T i hw
  exact ⟨w, _, Wk.noted k1 k3, rfl, fun _ => ⟨T, i, z, hw, rfl⟩⟩
structure YLater (Y Y' : Yd) : Prop where
 deed : ∀ (i : Nat) (d : Dd), Y.ds[i]? = some d → ∃ d', Y'.ds[i]? = some d' ∧ d'.who = d.who ∧ d'.kd = d.kd ∧ d'.e = d.e ∧ d'.x = d.x ∧ d'.s = d.s ∧ d'.fr = d.fr ∧ (d.till ≠ -1 → d' = d)
 log : ∃ E, Y'.L = Y.L ++ E
theorem YLater.refl (Y : Yd) : YLater Y Y := ⟨fun i d h => ⟨d, h, rfl, rfl, rfl, rfl, rfl, rfl, fun _ => rfl⟩, [], (List.append_nil _).symm⟩
theorem YLater.trans {A B D : Yd} (h : YLater A B) (k : YLater B D) : YLater A D := by
 obtain ⟨E, hE⟩ := h.log
 obtain ⟨F, hF⟩ := k.log
 refine ⟨fun i d hd => ?_, E ++ F, by rw [hF, hE, List.append_assoc]⟩
 obtain ⟨d', a, b1, b2, b3, b4, b5, b6, b7⟩ := h.deed i d hd
 obtain ⟨d2, a', c1, c2, c3, c4, c5, c6, c7⟩ := k.deed i d' a
 exact ⟨d2, a', c1.trans b1, c2.trans b2, c3.trans b3, c4.trans b4, c5.trans b5, c6.trans b6, fun ht => by have e := b7 ht; rw [c7 (by rw [e]; exact ht), e]⟩
theorem YMv.later (h : YOk pl t n Y) (hm : YMv pl Y Y') : YLater Y Y' := by
 obtain ⟨w0, E, _, hE, _⟩ := hm.noted h
 refine ⟨fun i' d hd => ?_, E, hE⟩
 cases hm with
 | rest => exact ⟨d, hd, rfl, rfl, rfl, rfl, rfl, rfl, fun _ => rfl⟩
 | pass k hk => exact ⟨d, hd, rfl, rfl, rfl, rfl, rfl, rfl, fun _ => rfl⟩
 | call w kd e x s T hw hk h0 hb hp hr => exact ⟨d, by show (Y.ds ++ [_])[i']? = _; rw [List.getElem?_append_left (List.getElem?_eq_some_iff.1 hd).1]; exact hd, rfl, rfl, rfl, rfl, rfl, rfl, fun _ => rfl⟩
 | step w T i z hw ha =>
  obtain ⟨k1, k2, k3, k4, d0, k5, k6, k7⟩ := h.task w T i hw
  unfold Yd.step
  by_cases hp : (T.step (pl w) Y.C Y.now z).ph = 0
  ·rw [if_pos hp, if_pos hp]
   exact ⟨d, hd, rfl, rfl, rfl, rfl, rfl, rfl, fun _ => rfl⟩
  ·rw [if_neg hp, if_neg hp]
   show ∃ d', (Y.ds.modify i _)[i']? = some d' ∧ _
   by_cases e : i = i'
   ·subst e
    rw [k5] at hd
    obtain rfl : d0 = d := by injection hd
    obtain ⟨s1, s2, s3, s4, s5, s6, _⟩ := Dd.over_same d0 Y.moves (T.step (pl w) Y.C Y.now z)
    exact ⟨_, zBi k5, s1, s2, s3, s4, s5, s6, fun ht => absurd k7.1 ht⟩
   ·exact ⟨d, by rw [zBn e]; exact hd, rfl, rfl, rfl, rfl, rfl, rfl, fun _ => rfl⟩
end
end
section
open Go.RowKit
structure Mv where
 kind : Int
 who : Int
 take : Bool
 right : Bool
 value : Int
 start : Int
 time : Int
def Mv.v (x : Mv) : Value := .agg #[i64 x.kind, i64 x.who, .bool x.take, .bool x.right, u64 x.value, i64 x.start, i64 x.time]
structure AtMv (w : World) (tb o : Nat) (x : Mv) : Prop where
 c0 : w.cell? ⟨tb, o, none⟩ = some (i64 x.kind)
 c1 : w.cell? ⟨tb, o + 1, none⟩ = some (i64 x.who)
 c2 : w.cell? ⟨tb, o + 2, none⟩ = some (.bool x.take)
 c3 : w.cell? ⟨tb, o + 3, none⟩ = some (.bool x.right)
 c4 : w.cell? ⟨tb, o + 4, none⟩ = some (u64 x.value)
 c5 : w.cell? ⟨tb, o + 5, none⟩ = some (i64 x.start)
 c6 : w.cell? ⟨tb, o + 6, none⟩ = some (i64 x.time)
theorem AtMv.later {w w' : World} {tb o B : Nat} {x : Mv} (h : AtMv w tb o x) (e : Below B w w') (hB : tb < B) : AtMv w' tb o x :=
 have k : ∀ j, w'.cell? ⟨tb, j, none⟩ = w.cell? ⟨tb, j, none⟩ := fun j => e.cell (p := ⟨tb, j, none⟩) hB
 ⟨(k _).trans h.c0, (k _).trans h.c1, (k _).trans h.c2, (k _).trans h.c3, (k _).trans h.c4, (k _).trans h.c5, (k _).trans h.c6⟩
def IsMvs (w : World) (a0 : Option Addr) (len cap tb off : Nat) (X : Nat → Mv) : Prop :=
 ∀ i, i < len → a0 = some ⟨tb, off, none⟩ ∧ len ≤ cap ∧ tb < w.heap.size ∧ AtMv w tb (off + i * 7) (X i) ∧ 0 ≤ (X i).value ∧ (X i).value ≤ 18446744073709551615
theorem IsMvs.later {w w' : World} {a : Option Addr} {len cap tb off B : Nat} {X : Nat → Mv} (h : IsMvs w a len cap tb off X) (e : Below B w w') (hB : ∀ i, i < len → tb < B) : IsMvs w' a len cap tb off X := fun i hi => by
 obtain ⟨h1, h2, h3, h4, h5⟩ := h i hi
 have h6 := h4.later e (hB i hi)
 exact ⟨h1, h2, World.block_lt_of_cell? w' _ h6.c0, h6, h5⟩
theorem Dd.over_reply (d : Dd) (m : Nat) (T : Wk) (h : d.ok = false ∧ d.v = 0 ∧ d.lo = 0 ∧ d.hi = 0) : T.reply = replyV (d.over m T).ok (d.over m T).v (d.over m T).lo (d.over m T).hi := by
 obtain ⟨h1, h2, h3, h4⟩ := h
 unfold Dd.over
 cases T with
 | pu k =>
  show k.reply = _
  unfold Pu.reply
  by_cases hp : k.ph = 1
  ·rw [if_pos hp, if_pos (show (Wk.pu k).ph = 1 from hp)]
  ·rw [if_neg hp, if_neg (show ¬ (Wk.pu k).ph = 1 from hp), h1, h2, h3, h4]
 | ge k =>
  show k.reply = _
  unfold Ge.reply
  by_cases hp : k.ph = 1
  ·rw [if_pos hp, if_pos (show (Wk.ge k).ph = 1 from hp)]
  ·rw [if_neg hp, if_neg (show ¬ (Wk.ge k).ph = 1 from hp), h1, h2, h3, h4]
end
section
open Go.RowKit
section
variable {W w w' : World} {l : List Thing}
theorem Hold.objSet (h : Hold W w l) (i : Nat) {b : Nat} {xs : List Value} (hi : l[i]? = some (tObj W.heap.size b xs)) (j : Nat) (u : Value) : Hold W (w.setCell ⟨b, j, none⟩ u) (l.set i (tObj W.heap.size b (xs.set j u))) :=
 h.turn i hi ((Keep.refl _ _).own j u |>.mono (fun q hq => hq)) (zAM _ _ _) ⟨(h.has i _ hi).1.set j u, (h.has i _ hi).2⟩ (fun q hq => .inl hq)
theorem Hold.rowSet (h : Hold W w l) (i : Nat) {e : TypeId} {sz n cap g : Nat} {xs : List Value} (hi : l[i]? = some (tRow W.heap.size e sz (.slice (some ⟨g, 0, none⟩) n cap) n xs)) (j : Nat) (u : Value) :
  Hold W (w.setCell ⟨g, j, none⟩ u) (l.set i (tRow W.heap.size e sz (.slice (some ⟨g, 0, none⟩) n cap) n (xs.set j u))) := by
 have hr : w.ownsRow W.heap.size e sz (.slice (some ⟨g, 0, none⟩) n cap) n xs := h.has i _ hi
 have k : Keep (tRow W.heap.size e sz (.slice (some ⟨g, 0, none⟩) n cap) n xs).F w (w.setCell ⟨g, j, none⟩ u) := (Keep.refl _ _).setCell ⟨g, j, none⟩ (by show some g = some g; rfl) u
 exact h.turn i hi k (zAy _ _ _ _ _ _) (hr.stored j u).1 (fun q hq => .inl hq)
end
structure YB where
 yb : Nat
 tb : Nat
 p : Nat
 c : Nat
 t : Int
 s : Int
 so : Int
 d : Int
 T : Nat
def YB.list (B : YB) (vd : Value) (Y : Yd) : List Value := [i64 B.t, i64 B.s, i64 B.so, i64 B.d, pt B.p, .slice (some ⟨B.tb, 0, none⟩) B.T B.T, vd, i64 Y.moves, i64 Y.now]
structure YAt (W w : World) (l : List Thing) (B : YB) (Y : Yd) (J : Nat → Nat) (v vd : Value) (X : List Value) : Prop where
 hold : Hold W w l
 mem : l[0]? = some (tMem W.heap.size B.p B.c v Y.C Y.L)
 obj : l[1]? = some (tObj W.heap.size B.yb (B.list vd Y))
 row : l[2]? = some (tObj W.heap.size B.tb X)
 deeds : l[3]? = some (tRow W.heap.size 77 11 vd Y.ds.length (flatD Y.ds))
 hT : (B.T : Int) = B.t
 xl : X.length = B.T * 2
 tl : Y.ts.length = B.T
 idle : ∀ (k : Nat), Y.ts[k]? = some none → X[k * 2]? = some (.pointer none)
 busy : ∀ (k : Nat) (T : Wk) (i : Nat), Y.ts[k]? = some (some (T, i)) → ∃ y, X[k * 2]? = some (pt y.b) ∧ X[k * 2 + 1]? = some (i64 i) ∧ 4 ≤ J k ∧ l[J k]? = some (wT W.heap.size y) ∧ y.T = T
 inj : ∀ (k k' : Nat) (a a' : Wk × Nat), Y.ts[k]? = some (some a) → Y.ts[k']? = some (some a') → k ≠ k' → J k ≠ J k'
def YH (W w : World) (l : List Thing) (B : YB) (Y : Yd) (J : Nat → Nat) : Prop := ∃ v vd X, YAt W w l B Y J v vd X
def YFree (Y : Yd) (J : Nat → Nat) (j : Nat) : Prop := 4 ≤ j ∧ ∀ (k : Nat) (a : Wk × Nat), Y.ts[k]? = some (some a) → J k ≠ j
structure YGo (Y Y' : Yd) (l l' : List Thing) (J J' : Nat → Nat) : Prop where
 len : l.length ≤ l'.length
 keep : ∀ j A, l[j]? = some A → YFree Y J j → l'[j]? = some A
 free : ∀ j, j < l.length → YFree Y J j → YFree Y' J' j
theorem YGo.refl (Y : Yd) (l : List Thing) (J : Nat → Nat) : YGo Y Y l l J J := ⟨Nat.le_refl _, fun _ _ h _ => h, fun _ _ h => h⟩
theorem YGo.trans {Y Y1 Y2 : Yd} {l l1 l2 : List Thing} {J J1 J2 : Nat → Nat} (a : YGo Y Y1 l l1 J J1) (b : YGo Y1 Y2 l1 l2 J1 J2) : YGo Y Y2 l l2 J J2 :=
 ⟨Nat.le_trans a.len b.len, fun j A h hf => b.keep j A (a.keep j A h hf) (a.free j (List.getElem?_eq_some_iff.1 h).1 hf), fun j h hf => b.free j (Nat.lt_of_lt_of_le h a.len) (a.free j h hf)⟩
section
variable {W w w' : World} {l : List Thing} {B : YB} {Y : Yd} {J : Nat → Nat} {v vd : Value} {X : List Value}
theorem YAt.later (h : YAt W w l B Y J v vd X) (e : Below w.heap.size w w') : YAt W w' l B Y J v vd X := { h with hold := h.hold.later e }
theorem YH.later (h : YH W w l B Y J) (e : Below w.heap.size w w') : YH W w' l B Y J := by
 obtain ⟨v, vd, X, h⟩ := h
 exact ⟨v, vd, X, h.later e⟩
theorem YH.drew (h : YH W w l B Y J) : YH W w.drew l B Y J := h.later (Below.refl _ _).drew
theorem YH.hold (h : YH W w l B Y J) : Hold W w l := by
 obtain ⟨v, vd, X, h⟩ := h
 exact h.hold
theorem YH.below (h : YH W w l B Y J) : Below W.heap.size W w := h.hold.below
theorem YH.size (h : YH W w l B Y J) : W.heap.size ≤ w.heap.size := h.hold.size
theorem YH.fit (h : YH W w l B Y J) : ∀ j, 0 ≤ Y.C.getD j 0 ∧ Y.C.getD j 0 ≤ 18446744073709551615 := by
 obtain ⟨v, vd, X, h⟩ := h
 have hm : IsMem W.heap.size w B.p B.c v Y.C Y.L := h.hold.has 0 _ h.mem
 exact hm.fit
theorem YH.more (h : YH W w l B Y J) {A : Thing} (e : Below w.heap.size w w') (ok : A.Ok W.heap.size) (hP : A.P w') (hF : ∀ q, A.F q → w.heap.size ≤ q) : YH W w' (l ++ [A]) B Y J := by
 obtain ⟨v, vd, X, h⟩ := h
 have up : ∀ {i : Nat} {A' : Thing}, l[i]? = some A' → (l ++ [A])[i]? = some A' := fun hi => by rw [List.getElem?_append_left (List.getElem?_eq_some_iff.1 hi).1]; exact hi
 refine ⟨v, vd, X, h.hold.more e ok hP hF, up h.mem, up h.obj, up h.row, up h.deeds, h.hT, h.xl, h.tl, h.idle, fun k T i hk => ?_, h.inj⟩
 obtain ⟨y, a, b, c, d, f⟩ := h.busy k T i hk
 exact ⟨y, a, b, c, up d, f⟩
theorem YH.other (h : YH W w l B Y J) {l' : List Thing} (hl : Hold W w' l') (hk : ∀ j A, l[j]? = some A → ¬ YFree Y J j → l'[j]? = some A) : YH W w' l' B Y J := by
 obtain ⟨v, vd, X, h⟩ := h
 have low : ∀ {j : Nat}, j < 4 → ¬ YFree Y J j := fun hj hf => by have := hf.1; omega
 refine ⟨v, vd, X, hl, hk _ _ h.mem (low (by omega)), hk _ _ h.obj (low (by omega)), hk _ _ h.row (low (by omega)), hk _ _ h.deeds (low (by omega)), h.hT, h.xl, h.tl, h.idle, fun k T i hk' => ?_, h.inj⟩
 obtain ⟨y, a, b, c, d, f⟩ := h.busy k T i hk'
 exact ⟨y, a, b, c, hk _ _ d (fun hf => hf.2 k _ hk' rfl), f⟩
theorem YAt.objAt (h : YAt W w l B Y J v vd X) : IsObj w B.yb (B.list vd Y) := (h.hold.has 1 _ h.obj).1
theorem YAt.rowAt (h : YAt W w l B Y J v vd X) : IsObj w B.tb X := (h.hold.has 2 _ h.row).1
theorem YAt.ne (h : YAt W w l B Y J v vd X) : B.tb ≠ B.yb := fun e => h.hold.apart 1 2 _ _ h.obj h.row (by omega) B.yb rfl e.symm
theorem YAt.own (h : YAt W w l B Y J v vd X) : w.ownsRow W.heap.size 77 11 vd Y.ds.length (flatD Y.ds) := h.hold.has 3 _ h.deeds
theorem YAt.dne (h : YAt W w l B Y J v vd X) : vd.ownBlock ≠ some B.yb ∧ vd.ownBlock ≠ some B.tb := ⟨fun e => h.hold.apart 1 3 _ _ h.obj h.deeds (by omega) B.yb rfl e, fun e => h.hold.apart 2 3 _ _ h.row h.deeds (by omega) B.tb rfl e⟩
theorem YAt.setMoves (h : YAt W w l B Y J v vd X) (m : Nat) : YAt W (w.setCell ⟨B.yb, 7, none⟩ (i64 m)) (l.set 1 (tObj W.heap.size B.yb (B.list vd { Y with moves := m }))) B { Y with moves := m } J v vd X :=
 ⟨h.hold.objSet 1 h.obj 7 (i64 m), by rw [List.getElem?_set_ne (by omega)]; exact h.mem, List.getElem?_set_self (List.getElem?_eq_some_iff.1 h.obj).1, by rw [List.getElem?_set_ne (by omega)]; exact h.row, by rw [List.getElem?_set_ne (by omega)]; exact h.deeds, h.hT, h.xl, h.tl, h.idle, fun k T i hk => by
  obtain ⟨y, a, b, c, d, f⟩ := h.busy k T i hk
  exact ⟨y, a, b, c, by rw [List.getElem?_set_ne (by omega)]; exact d, f⟩, h.inj⟩
theorem YAt.setNow (h : YAt W w l B Y J v vd X) (n : Int) : YAt W (w.setCell ⟨B.yb, 8, none⟩ (i64 n)) (l.set 1 (tObj W.heap.size B.yb (B.list vd { Y with now := n }))) B { Y with now := n } J v vd X :=
 ⟨h.hold.objSet 1 h.obj 8 (i64 n), by rw [List.getElem?_set_ne (by omega)]; exact h.mem, List.getElem?_set_self (List.getElem?_eq_some_iff.1 h.obj).1, by rw [List.getElem?_set_ne (by omega)]; exact h.row, by rw [List.getElem?_set_ne (by omega)]; exact h.deeds, h.hT, h.xl, h.tl, h.idle, fun k T i hk => by
  obtain ⟨y, a, b, c, d, f⟩ := h.busy k T i hk
  exact ⟨y, a, b, c, by rw [List.getElem?_set_ne (by omega)]; exact d, f⟩, h.inj⟩
theorem YAt.addDeed (h : YAt W w l B Y J v vd X) {w1 : World} {vd' : Value} (dd : Dd) (hG : Grew w w1 W.heap.size 77 11 vd vd' (Y.ds.length + 1) (flatD Y.ds ++ dd.list)) :
  YAt W (w1.setCell ⟨B.yb, 6, none⟩ vd') ((l.set 3 (tRow W.heap.size 77 11 vd' (Y.ds.length + 1) (flatD Y.ds ++ dd.list))).set 1 (tObj W.heap.size B.yb (B.list vd' { Y with ds := Y.ds ++ [dd] }))) B { Y with ds := Y.ds ++ [dd] } J v vd' X := by
 have h1 := h.hold.append 3 rfl h.deeds hG
 have e1 : (l.set 3 (tRow W.heap.size 77 11 vd' (Y.ds.length + 1) (flatD Y.ds ++ dd.list)))[1]? = some (tObj W.heap.size B.yb (B.list vd Y)) := by rw [List.getElem?_set_ne (by omega)]; exact h.obj
 refine ⟨h1.objSet 1 e1 6 vd', by rw [List.getElem?_set_ne (by omega), List.getElem?_set_ne (by omega)]; exact h.mem, List.getElem?_set_self (List.getElem?_eq_some_iff.1 e1).1, by rw [List.getElem?_set_ne (by omega), List.getElem?_set_ne (by omega)]; exact h.row, ?_, h.hT, h.xl, h.tl, h.idle, fun k T i hk => ?_, h.inj⟩
 ·rw [List.getElem?_set_ne (by omega), List.getElem?_set_self (List.getElem?_eq_some_iff.1 h.deeds).1]
  show some (tRow _ _ _ _ _ _) = some (tRow _ _ _ _ (Y.ds ++ [dd]).length (flatD (Y.ds ++ [dd])))
  rw [List.length_append, List.length_singleton, zB3]
  simp [flatD]
 ·obtain ⟨y, a, b, c, d, f⟩ := h.busy k T i hk
  exact ⟨y, a, b, c, by rw [List.getElem?_set_ne (by omega), List.getElem?_set_ne (by omega)]; exact d, f⟩
theorem YAt.begin (h : YAt W w l B Y J v vd X) {A : Nat} {w1 : World} {y : WT} {i : Nat} (hw : Y.ts[A]? = some none) (h1 : Hold W w1 (l ++ [wT W.heap.size y])) :
  YAt W ((w1.setCell ⟨B.tb, A * 2, none⟩ (pt y.b)).setCell ⟨B.tb, A * 2 + 1, none⟩ (i64 i)) ((l ++ [wT W.heap.size y]).set 2 (tObj W.heap.size B.tb ((X.set (A * 2) (pt y.b)).set (A * 2 + 1) (i64 i)))) B { Y with ts := Y.ts.set A (some (y.T, i)) } (fun k => if k = A then l.length else J k) v vd ((X.set (A * 2) (pt y.b)).set (A * 2 + 1) (i64 i)) := by
 have up : ∀ {j : Nat} {A' : Thing}, l[j]? = some A' → (l ++ [wT W.heap.size y])[j]? = some A' := fun hi => by rw [List.getElem?_append_left (List.getElem?_eq_some_iff.1 hi).1]; exact hi
 have hA : A < B.T := by have := (List.getElem?_eq_some_iff.1 hw).1; have := h.tl; omega
 have h4 : 4 ≤ l.length := by have := (List.getElem?_eq_some_iff.1 h.deeds).1; omega
 have h2 := h1.objSet 2 (up h.row) (A * 2) (pt y.b)
 have h3 := h2.objSet 2 (List.getElem?_set_self (List.getElem?_eq_some_iff.1 (up h.row)).1) (A * 2 + 1) (i64 i)
 rw [List.set_set] at h3
 have hxl := h.xl
 have Xget : ∀ j, j ≠ A * 2 → j ≠ A * 2 + 1 → ((X.set (A * 2) (pt y.b)).set (A * 2 + 1) (i64 i))[j]? = X[j]? := fun j a b => by rw [List.getElem?_set_ne (fun e => b e.symm), List.getElem?_set_ne (fun e => a e.symm)]
 refine ⟨h3, by rw [List.getElem?_set_ne (by omega)]; exact up h.mem, by rw [List.getElem?_set_ne (by omega)]; exact up h.obj, List.getElem?_set_self (List.getElem?_eq_some_iff.1 (up h.row)).1, by rw [List.getElem?_set_ne (by omega)]; exact up h.deeds, h.hT, by rw [List.length_set, List.length_set]; exact hxl, by show (Y.ts.set A _).length = _; rw [List.length_set]; exact h.tl, fun k hk => ?_, fun k T j hk => ?_, fun k k' a a' hk hk' hne => ?_⟩
 ·rcases yset hk with ⟨_, he, _⟩ | ⟨hne, hk⟩
  ·cases he
  ·rw [Xget _ (by omega) (by omega)]
   exact h.idle k hk
 ·rcases yset hk with ⟨rfl, he, _⟩ | ⟨hne, hk⟩
  ·cases he
   refine ⟨y, by rw [List.getElem?_set_ne (by omega), List.getElem?_set_self (by omega)], List.getElem?_set_self (by rw [List.length_set]; omega), by simp only [if_true]; exact h4, ?_, rfl⟩
   simp only [if_true]
   rw [List.getElem?_set_ne (by omega), List.getElem?_append_right (Nat.le_refl _), Nat.sub_self]
   rfl
  ·obtain ⟨y', a, b, c, d, f⟩ := h.busy k T j hk
   have hk2 : ¬ k = A := fun e => hne e.symm
   refine ⟨y', by rw [Xget _ (by omega) (by omega)]; exact a, by rw [Xget _ (by omega) (by omega)]; exact b, by simp only [hk2, if_false]; exact c, ?_, f⟩
   simp only [hk2, if_false]
   rw [List.getElem?_set_ne (by omega)]
   exact up d
 ·have lt : ∀ k a, k ≠ A → (Y.ts.set A (some (y.T, i)))[k]? = some (some a) → J k < l.length := fun k a hn hk => by
   rcases yset hk with ⟨e, _, _⟩ | ⟨_, hk⟩
   ·exact absurd e.symm hn
   ·obtain ⟨y', _, _, _, d, _⟩ := h.busy k a.1 a.2 hk
    exact (List.getElem?_eq_some_iff.1 d).1
  by_cases e : k = A
  ·have e' : ¬ k' = A := fun e' => hne (e.trans e'.symm)
   have := lt k' a' e' hk'
   simp only [e, e', if_true, if_false]
   omega
  ·by_cases e' : k' = A
   ·have := lt k a e hk
    simp only [e, e', if_true, if_false]
    omega
   ·simp only [e, e', if_false]
    rcases yset hk with ⟨x, _, _⟩ | ⟨_, hk⟩
    ·exact absurd x.symm e
    ·rcases yset hk' with ⟨x, _, _⟩ | ⟨_, hk'⟩
     ·exact absurd x.symm e'
     ·exact h.inj k k' a a' hk hk' hne
theorem YAt.end (h : YAt W w l B Y J v vd X) {A : Nat} (hA : A < B.T) :
  YAt W (w.setCell ⟨B.tb, A * 2, none⟩ (.pointer none)) (l.set 2 (tObj W.heap.size B.tb (X.set (A * 2) (.pointer none)))) B { Y with ts := Y.ts.set A none } J v vd (X.set (A * 2) (.pointer none)) := by
 have h2 := h.hold.objSet 2 h.row (A * 2) (.pointer none)
 have hxl := h.xl
 refine ⟨h2, by rw [List.getElem?_set_ne (by omega)]; exact h.mem, by rw [List.getElem?_set_ne (by omega)]; exact h.obj, List.getElem?_set_self (List.getElem?_eq_some_iff.1 h.row).1, by rw [List.getElem?_set_ne (by omega)]; exact h.deeds, h.hT, by rw [List.length_set]; exact hxl, by show (Y.ts.set A _).length = _; rw [List.length_set]; exact h.tl, fun k hk => ?_, fun k T j hk => ?_, fun k k' a a' hk hk' hne => ?_⟩
 ·rcases yset hk with ⟨rfl, _, _⟩ | ⟨hne, hk⟩
  ·exact List.getElem?_set_self (by omega)
  ·rw [List.getElem?_set_ne (by omega)]
   exact h.idle k hk
 ·rcases yset hk with ⟨rfl, he, _⟩ | ⟨hne, hk⟩
  ·cases he
  ·obtain ⟨y', a, b, c, d, f⟩ := h.busy k T j hk
   exact ⟨y', by rw [List.getElem?_set_ne (by omega)]; exact a, by rw [List.getElem?_set_ne (by omega)]; exact b, c, by rw [List.getElem?_set_ne (by omega)]; exact d, f⟩
 ·rcases yset hk with ⟨_, he, _⟩ | ⟨_, hk⟩
  ·cases he
  ·rcases yset hk' with ⟨_, he, _⟩ | ⟨_, hk'⟩
   ·cases he
   ·exact h.inj k k' a a' hk hk' hne
theorem YAt.gone (h : YAt W w l B Y J v vd X) {A i : Nat} {T T' : Wk} {y y' : WT} {v' : Value} {C' : List Int} {L' : List Ev} (hw : Y.ts[A]? = some (some (T, i))) (hj : l[J A]? = some (wT W.heap.size y)) (hy : y'.b = y.b) (hT : y'.T = T') (hX : X[A * 2]? = some (pt y.b))
  (h1 : Hold W w' ((l.set 0 (tMem W.heap.size B.p B.c v' C' L')).set (J A) (wT W.heap.size y'))) :
  YAt W w' ((l.set 0 (tMem W.heap.size B.p B.c v' C' L')).set (J A) (wT W.heap.size y')) B { Y with C := C', L := L', ts := Y.ts.set A (some (T', i)) } J v' vd X := by
 obtain ⟨y0, a0, b0, c0, d0, f0⟩ := h.busy A T i hw
 have hA : A < Y.ts.length := (List.getElem?_eq_some_iff.1 hw).1
 refine ⟨h1, by rw [List.getElem?_set_ne (by omega)]; exact List.getElem?_set_self (List.getElem?_eq_some_iff.1 h.mem).1, by rw [List.getElem?_set_ne (by omega), List.getElem?_set_ne (by omega)]; exact h.obj, by rw [List.getElem?_set_ne (by omega), List.getElem?_set_ne (by omega)]; exact h.row, by rw [List.getElem?_set_ne (by omega), List.getElem?_set_ne (by omega)]; exact h.deeds, h.hT, h.xl, by show (Y.ts.set A _).length = _; rw [List.length_set]; exact h.tl, fun k hk => ?_, fun k T2 j hk => ?_, fun k k' a a' hk hk' hne => ?_⟩
 ·rcases yset hk with ⟨_, he, _⟩ | ⟨_, hk⟩
  ·cases he
  ·exact h.idle k hk
 ·rcases yset hk with ⟨rfl, he, _⟩ | ⟨hne, hk⟩
  ·cases he
   exact ⟨y', by rw [hy]; exact hX, b0, c0, List.getElem?_set_self (by rw [List.length_set]; exact (List.getElem?_eq_some_iff.1 hj).1), hT⟩
  ·obtain ⟨y2, a, b, c, d, f⟩ := h.busy k T2 j hk
   have := h.inj k A _ _ hk hw (fun e => hne e.symm)
   exact ⟨y2, a, b, c, by rw [List.getElem?_set_ne (by omega), List.getElem?_set_ne (by omega)]; exact d, f⟩
 ·have back : ∀ q b, (Y.ts.set A (some (T', i)))[q]? = some (some b) → ∃ b', Y.ts[q]? = some (some b') := fun q b hq => by
   rcases yset hq with ⟨rfl, _, _⟩ | ⟨_, hq⟩
   ·exact ⟨_, hw⟩
   ·exact ⟨_, hq⟩
  obtain ⟨b, hb⟩ := back k a hk
  obtain ⟨b', hb'⟩ := back k' a' hk'
  exact h.inj k k' b b' hb hb' hne
theorem YAt.setDeed (h : YAt W w l B Y J v vd X) {i g cap : Nat} {dd dd' : Dd} (hv : vd = .slice (some ⟨g, 0, none⟩) Y.ds.length cap) (hd : Y.ds[i]? = some dd) (hs : dd' = { dd with till := dd'.till, ok := dd'.ok, v := dd'.v, lo := dd'.lo, hi := dd'.hi }) :
  ∃ l', YAt W (((((w.setCell ⟨g, i * 11 + 6, none⟩ (i64 dd'.till)).setCell ⟨g, i * 11 + 7, none⟩ (.bool dd'.ok)).setCell ⟨g, i * 11 + 8, none⟩ (u64 dd'.v)).setCell ⟨g, i * 11 + 9, none⟩ (i64 dd'.lo)).setCell ⟨g, i * 11 + 10, none⟩ (i64 dd'.hi)) l' B { Y with ds := Y.ds.set i dd' } J v vd X ∧ l'.length = l.length ∧ ∀ j A, 4 ≤ j → l[j]? = some A → l'[j]? = some A := by
 subst hv
 have hd3 := (List.getElem?_eq_some_iff.1 h.deeds).1
 have h1 := h.hold.rowSet 3 h.deeds (i * 11 + 6) (i64 dd'.till)
 have h2 := h1.rowSet 3 (List.getElem?_set_self hd3) (i * 11 + 7) (.bool dd'.ok)
 rw [List.set_set] at h2
 have h3 := h2.rowSet 3 (List.getElem?_set_self hd3) (i * 11 + 8) (u64 dd'.v)
 rw [List.set_set] at h3
 have h4 := h3.rowSet 3 (List.getElem?_set_self hd3) (i * 11 + 9) (i64 dd'.lo)
 rw [List.set_set] at h4
 have h5 := h4.rowSet 3 (List.getElem?_set_self hd3) (i * 11 + 10) (i64 dd'.hi)
 rw [List.set_set] at h5
 have hf : (((((flatD Y.ds).set (i * 11 + 6) (i64 dd'.till)).set (i * 11 + 7) (.bool dd'.ok)).set (i * 11 + 8) (u64 dd'.v)).set (i * 11 + 9) (i64 dd'.lo)).set (i * 11 + 10) (i64 dd'.hi) = flatD (Y.ds.set i dd') :=
  zDn [(6, i64 dd'.till), (7, .bool dd'.ok), (8, u64 dd'.v), (9, i64 dd'.lo), (10, i64 dd'.hi)] hd (fun a ha => by
   simp only [List.mem_cons, List.not_mem_nil, or_false] at ha
   rcases ha with rfl | rfl | rfl | rfl | rfl <;> simp) (by rw [hs]; rfl)
 rw [hf] at h5
 refine ⟨_, ⟨h5, by rw [List.getElem?_set_ne (by omega)]; exact h.mem, ?_, by rw [List.getElem?_set_ne (by omega)]; exact h.row, ?_, h.hT, h.xl, h.tl, h.idle, fun k T j hk => ?_, h.inj⟩, List.length_set, fun j A hj hA => by rw [List.getElem?_set_ne (by omega)]; exact hA⟩
 ·rw [List.getElem?_set_ne (by omega)]
  exact h.obj
 ·rw [List.getElem?_set_self hd3]
  show some (tRow _ _ _ _ _ _) = some (tRow _ _ _ _ (Y.ds.set i dd').length (flatD (Y.ds.set i dd')))
  rw [List.length_set]
 ·obtain ⟨y', a, b, c, d, f⟩ := h.busy k T j hk
  exact ⟨y', a, b, c, by rw [List.getElem?_set_ne (by omega)]; exact d, f⟩
end
end
section
open Go.RowKit
structure AtY (w : World) (B : YB) (vd : Value) (moves : Nat) (now : Int) : Prop where
 c0 : w.cell? ⟨B.yb, 0, none⟩ = some (i64 B.t)
 c1 : w.cell? ⟨B.yb, 1, none⟩ = some (i64 B.s)
 c2 : w.cell? ⟨B.yb, 2, none⟩ = some (i64 B.so)
 c3 : w.cell? ⟨B.yb, 3, none⟩ = some (i64 B.d)
 c4 : w.cell? ⟨B.yb, 4, none⟩ = some (pt B.p)
 c5 : w.cell? ⟨B.yb, 5, none⟩ = some (.slice (some ⟨B.tb, 0, none⟩) B.T B.T)
 c6 : w.cell? ⟨B.yb, 6, none⟩ = some vd
 c7 : w.cell? ⟨B.yb, 7, none⟩ = some (i64 moves)
 c8 : w.cell? ⟨B.yb, 8, none⟩ = some (i64 now)
theorem AtY.of {w : World} {B : YB} {vd : Value} {Y : Yd} (h : IsObj w B.yb (B.list vd Y)) : AtY w B vd Y.moves Y.now :=
 ⟨h.at' 0 _ rfl, h.at' 1 _ rfl, h.at' 2 _ rfl, h.at' 3 _ rfl, h.at' 4 _ rfl, h.at' 5 _ rfl, h.at' 6 _ rfl, h.at' 7 _ rfl, h.at' 8 _ rfl⟩
section
variable {W w w' : World} {l : List Thing} {B : YB} {Y : Yd} {J : Nat → Nat} {v vd : Value} {X : List Value}
theorem YAt.cells (h : YAt W w l B Y J v vd X) : AtY w B vd Y.moves Y.now := AtY.of h.objAt
theorem zBN (h : YAt W w l B Y J v vd X) (k : Nat) (hk : k < B.T) :
  Calls Tryz.prog 69 #[pt B.yb, i64 k] w fun r w' => r = .returned (.pointer (some ⟨B.tb, k * 2, none⟩)) ∧ w = w' := by
 have c5 := h.cells.c5
 have hk' : (k : Int) < (B.T : Int) := by omega
 clear h
 go_enter Tryz.func69, Tryz.ntmps69
 go_wp2
 go_ret
 exact ⟨rfl, rfl⟩
theorem zCq (h : YAt W w l B Y J v vd X) (k : Int) (hk : k < 0 ∨ B.t ≤ k) :
  Calls Tryz.prog 69 #[pt B.yb, i64 k] w fun r w' => r = .returned (.pointer none) ∧ w = w' := by
 have c5 := h.cells.c5
 have hT := h.hT
 rw [← hT] at hk
 clear h hT
 rcases hk with hk | hk
 all_goals
  go_enter Tryz.func69, Tryz.ntmps69
  go_wp2
  go_ret
  exact ⟨rfl, rfl⟩
theorem zC8 (h : YAt W w l B Y J v vd X) (k : Nat) (hk : k < B.T) (q : Option (Wk × Nat)) (hq : Y.ts[k]? = some q) :
  Calls Tryz.prog 33 #[pt B.yb, i64 k] w fun r w' => r = .returned (.bool q.isSome) ∧ w = w' := by
 have HT := zIc (zBN h k hk)
 cases q with
 | none =>
  have hx := h.rowAt.at' _ _ (h.idle k hq)
  clear h
  go_enter Tryz.func33, Tryz.ntmps33
  go_wp2_with fail
  refine HT.out.mono ?_
  rintro r w' ⟨rfl, rfl⟩
  go_wp2
  go_ret
  exact ⟨rfl, rfl⟩
 | some a =>
  obtain ⟨y, a1, _⟩ := h.busy k a.1 a.2 hq
  have hx := h.rowAt.at' _ _ a1
  clear h a1
  go_enter Tryz.func33, Tryz.ntmps33
  go_wp2_with fail
  refine HT.out.mono ?_
  rintro r w' ⟨rfl, rfl⟩
  go_wp2
  go_ret
  exact ⟨rfl, rfl⟩
theorem zGz (h : YAt W w l B Y J v vd X) (k : Int) (hk : k < 0 ∨ B.t ≤ k) :
  Calls Tryz.prog 33 #[pt B.yb, i64 k] w fun r w' => r = .returned (.bool false) ∧ w = w' := by
 have HT := zIc (zCq h k hk)
 clear h
 go_enter Tryz.func33, Tryz.ntmps33
 go_wp2_with fail
 refine HT.out.mono ?_
 rintro r w' ⟨rfl, rfl⟩
 go_wp2
 go_ret
 exact ⟨rfl, rfl⟩
theorem zFb (h : YAt W w l B Y J v vd X) (n : Int) (hn : n ≤ 0) :
  Calls Tryz.prog 45 #[pt B.yb, i64 n] w fun r w' => r = .returned (.tuple #[]) ∧ w = w' := by
 clear h
 go_enter Tryz.func45, Tryz.ntmps45
 go_wp2
 exact bodyPost_ret (v := .tuple #[]) (by simp [results, Tryz.results45, go_sem]) rfl ⟨rfl, rfl⟩
theorem zCY (h : YAt W w l B Y J v vd X) (n : Int) (hn : 0 < n) (n0 : 0 ≤ Y.now) (n1 : Y.now ≤ yMax) :
  Calls Tryz.prog 45 #[pt B.yb, i64 n] w fun r w' => r = .returned (.tuple #[]) ∧ ∃ l', YAt W w' l' B (Y.pass n) J v vd X ∧ l'.length = l.length ∧ ∀ j A, 4 ≤ j → l[j]? = some A → l'[j]? = some A := by
 have hm : yMax = 1099511627776 := rfl
 have c8 := h.cells.c8
 have f8 := h.objAt.fz 8
 have HF := zIc (fun u => (YAt.later (h.setNow u) (Below.refl _ _).drew))
 have HL := zIc (fun (A : Thing) j (hj : 4 ≤ j) (B' : Thing) (hl : l[j]? = some B') => show (l.set 1 A)[j]? = some B' by rw [List.getElem?_set_ne (by omega)]; exact hl)
 clear h
 have hv : IntKind.i64.wrap (Y.now + min n (IntKind.i64.wrap (1099511627776 - Y.now))) = (Y.pass n).now := by
  have hi : IntKind.i64.wrap (1099511627776 - Y.now) = 1099511627776 - Y.now := IntWalk.i64_in _ (by omega)
  show _ = if n > yMax - Y.now then yMax else Y.now + n
  rw [hi, hm]
  split
  ·rw [show min n (1099511627776 - Y.now) = 1099511627776 - Y.now by omega, IntWalk.i64_in _ (by omega)]
   omega
  ·rw [show min n (1099511627776 - Y.now) = n by omega, IntWalk.i64_in _ (by omega)]
 have HV := zIc hv
 clear hv hm
 go_enter Tryz.func45, Tryz.ntmps45
 go_wp2_with fail
 go_region_law (fail)
 all_goals
  go_wp2
  go_end0
  rw [HV.out]
  exact ⟨rfl, _, HF.out _, List.length_set, fun j A hj hA => HL.out _ j hj A hA⟩
theorem ymoves (h : YAt W w l B Y J v vd X) : ∃ l', YAt W (w.setCell ⟨B.yb, 7, none⟩ (.int .i64 ((Y.moves : Int) + 1))) l' B { Y with moves := Y.moves + 1 } J v vd X ∧ l'.length = l.length ∧ ∀ j A, 4 ≤ j → l[j]? = some A → l'[j]? = some A :=
 ⟨_, h.setMoves (Y.moves + 1), List.length_set, fun j A hj hA => by rw [List.getElem?_set_ne (by omega)]; exact hA⟩
def YStay (l l' : List Thing) (e : Nat) : Prop := l.length ≤ l'.length ∧ ∀ j A, 4 ≤ j → j ≠ e → l[j]? = some A → l'[j]? = some A
theorem YStay.same {l l' l2 : List Thing} {e : Nat} (h : YStay l l' e) (hl : l2.length = l'.length) (hk : ∀ j A, 4 ≤ j → l'[j]? = some A → l2[j]? = some A) : YStay l l2 e :=
 ⟨by rw [hl]; exact h.1, fun j A hj he hA => hk j A hj (h.2 j A hj he hA)⟩
structure AtTh (w : World) (B : YB) (k b i : Nat) : Prop where
 d0 : w.cell? ⟨B.tb, k * 2, none⟩ = some (pt b)
 d1 : w.cell? ⟨B.tb, k * 2 + 1, none⟩ = some (i64 i)
theorem zFH {P : Pl} {k i : Nat} {T : Wk} {z : Int} (n1 : Y.now ≤ yMax) (hp : (T.step P Y.C Y.now z).ph = 0) :
  Y.step P k T i z = Yd.pass { C := T.cells P Y.C Y.now, L := Y.L ++ T.ev P Y.C Y.now, now := Y.now, moves := Y.moves + 1, ts := Y.ts.set k (some (T.step P Y.C Y.now z, i)), ds := Y.ds } 1 := by
 unfold Yd.step Yd.pass Yd.tick
 rw [if_pos hp, if_pos hp]
 have : (if Y.now < yMax then Y.now + 1 else yMax) = if (1 : Int) > yMax - Y.now then yMax else Y.now + 1 := by split <;> split <;> omega
 rw [this]
theorem zGW {P : Pl} {k i : Nat} {T : Wk} {z : Int} {dd : Dd} (n1 : Y.now ≤ yMax) (hp : (T.step P Y.C Y.now z).ph ≠ 0) (hd : Y.ds[i]? = some dd) :
  Y.step P k T i z = Yd.pass { C := T.cells P Y.C Y.now, L := Y.L ++ T.ev P Y.C Y.now, now := Y.now, moves := Y.moves + 1, ts := Y.ts.set k none, ds := Y.ds.set i (dd.over Y.moves (T.step P Y.C Y.now z)) } 1 := by
 unfold Yd.step Yd.pass Yd.tick
 rw [if_neg hp, if_neg hp, zCl hd]
 have : (if Y.now < yMax then Y.now + 1 else yMax) = if (1 : Int) > yMax - Y.now then yMax else Y.now + 1 := by split <;> split <;> omega
 rw [this]
theorem Dd.over_form (d : Dd) (m : Nat) (T : Wk) : d.over m T = { d with till := (d.over m T).till, ok := (d.over m T).ok, v := (d.over m T).v, lo := (d.over m T).lo, hi := (d.over m T).hi } ∧ (d.over m T).till = m := by
 unfold Dd.over
 split <;> exact ⟨rfl, rfl⟩
theorem own_at {w : World} {base : Nat} {e : TypeId} {sz n : Nat} {v : Value} {xs : List Value} (h : w.ownsRow base e sz v n xs) (hn : 0 < n) : ∃ g cap, v = .slice (some ⟨g, 0, none⟩) n cap := by
 rcases h.2 with ⟨_, h0⟩ | ⟨g, cap, cur, rfl, _⟩
 ·omega
 ·exact ⟨g, cap, rfl⟩
theorem zCI {pl : Nat → Pl} {n t k i : Nat} {T : Wk} (h : YAt W w l B Y J v vd X) (ho : YOk pl t n Y) (hn : n < 1000000) (hw : Y.ts[k]? = some (some (T, i))) :
  Calls Tryz.prog 35 #[pt B.yb, i64 k] w fun r w' => r = .returned (.bool true) ∧ ∃ z, T.ask Y.C z ∧ ∃ l', YH W w' l' B (Y.step (pl k) k T i z) J ∧ YStay l l' (J k) := by
 obtain ⟨o1, o2, o3, o4, dd, o5, o6⟩ := ho.task k T i hw
 have n0 := ho.now0
 have n1 := ho.now1
 have hmv := ho.most
 have hds := ho.nds
 have hL := ho.nL
 have hk : k < B.T := by have := (List.getElem?_eq_some_iff.1 hw).1; have := h.tl; omega
 obtain ⟨y, a1, a2, a3, a4, a5⟩ := h.busy k T i hw
 have hB := zC8 h k hk _ hw
 have HB := zIc hB
 have HTh := zIc (zBN h k hk)
 have HFit := zIc (YH.fit ⟨v, vd, X, h⟩)
 have hilt : i < Y.ds.length := (List.getElem?_eq_some_iff.1 o5).1
 obtain ⟨g, cap, rfl⟩ := own_at h.own (by omega)
 have HY := zIc (YAt.later h (Below.refl _ _).drew)
 have HA1 := zIc a1
 have HA2 := zIc a2
 have HA4 := zIc a4
 have HO1 := zIc o1
 have HO2 := zIc o2
 have HO5 := zIc o5
 have HO6 := zIc o6
 have HW := zIc hw
 clear hB h a1 a2 a4 o1 ho o2 o3 o4 o5 o6 hw
 subst a5
 go_enter Tryz.func35, Tryz.ntmps35
 go_wp2_with fail
 refine HB.out.mono ?_
 rintro r w' ⟨rfl, rfl⟩
 simp only [Option.isSome_some]
 clear HB
 go_wp2_with fail
 refine HTh.out.mono ?_
 rintro r w' ⟨rfl, rfl⟩
 clear HTh
 go_wp2_with fail
 refine zAD ((fun w' => AtY w' B (.slice (some ⟨g, 0, none⟩) Y.ds.length cap) Y.moves Y.now ∧ AtTh w' B k y.b i)) ((0, true) :: (1, true) :: (2, true) :: (3, true) :: (4, true) :: (5, true) :: (6, true) :: (7, true) :: (8, true) :: (9, true) :: (10, true) :: (11, true) :: (12, false) :: []) (by kernel_rfl) (by kernel_rfl) (by kernel_rfl) (by decide) (fun _ _ _ _ _ h => h) (⟨HY.out.cells, HY.out.rowAt.at' _ _ HA1.out, HY.out.rowAt.at' _ _ HA2.out⟩) ?_
 repeat ((first | (refine zAC (v := ?_) rfl ?_ ?_ ?_; rotate_left 1; rfl; focus (rintro wS ⟨⟨c0, c1, c2, c3, c4, c5, c6, c7, c8⟩, ⟨d0, d1⟩⟩; go_simp <;> with_reducible rfl)) | (refine zAB rfl ?_ ?_; rfl)); try simp only [Act.put, qset])
 refine zAG rfl (fun K hK => ?_)
 go_simp
 go_at_call 72
 refine (HY.out.hold.tstep 0 (J k) (by omega) HY.out.mem HA4.out HO1.out n0 (by omega)).mono ?_
 rintro r w1 ⟨z, hz, rfl, v1, B1, hH1⟩
 (try go_wp2_with fail)
 have HY1 := zIc (HY.out.gone (y' := ⟨y.b, B1, y.kd, y.e, y.x, y.s, y.T.step (pl k) Y.C Y.now z⟩) HW.out HA4.out rfl rfl HA1.out hH1)
 have HOk := zIc (HO1.out.next HO2.out hn hz n0 HFit.out).1
 have HST : Hid (YStay l ((l.set 0 (tMem W.heap.size B.p B.c v1 (y.T.cells (pl k) Y.C Y.now) (Y.L ++ y.T.ev (pl k) Y.C Y.now))).set (J k) (wT W.heap.size ⟨y.b, B1, y.kd, y.e, y.x, y.s, y.T.step (pl k) Y.C Y.now z⟩)) (J k)) :=
  ⟨by rw [List.length_set, List.length_set]; exact Nat.le_refl _, fun j A hj he hA => by rw [List.getElem?_set_ne (fun h => he h.symm), List.getElem?_set_ne (by omega)]; exact hA⟩
 have HJ : Hid (((l.set 0 (tMem W.heap.size B.p B.c v1 (y.T.cells (pl k) Y.C Y.now) (Y.L ++ y.T.ev (pl k) Y.C Y.now))).set (J k) (wT W.heap.size ⟨y.b, B1, y.kd, y.e, y.x, y.s, y.T.step (pl k) Y.C Y.now z⟩))[J k]? = some (wT W.heap.size ⟨y.b, B1, y.kd, y.e, y.x, y.s, y.T.step (pl k) Y.C Y.now z⟩)) :=
  List.getElem?_set_self (by rw [List.length_set]; exact (List.getElem?_eq_some_iff.1 HA4.out).1)
 clear hH1 HY HO1 HO2 HFit HW HA4
 generalize ((l.set 0 (tMem W.heap.size B.p B.c v1 (y.T.cells (pl k) Y.C Y.now) (Y.L ++ y.T.ev (pl k) Y.C Y.now))).set (J k) (wT W.heap.size ⟨y.b, B1, y.kd, y.e, y.x, y.s, y.T.step (pl k) Y.C Y.now z⟩)) = l1 at HY1 HST HJ
 refine hK.out _ _ (⟨HY1.out.cells, HY1.out.rowAt.at' _ _ HA1.out, HY1.out.rowAt.at' _ _ HA2.out⟩) (fun _ => ?_)
 (try simp only [Act.put, qset])
 clear hK K
 refine zAJ ?_
 by_cases hp : (y.T.step (pl k) Y.C Y.now z).ph = 0
 ·have e : ((y.T.step (pl k) Y.C Y.now z).ph != 0) = false := by simp [hp]
  rw [e]
  obtain ⟨c0, c1, c2, c3, c4, c5, c6, c7, c8⟩ := HY1.out.cells
  have f7 := HY1.out.objAt.fz 7
  have HP := zIc hp
  obtain ⟨l2, hM, hMl, hMk⟩ := ymoves HY1.out
  have HM := zIc hM
  have HMk := zIc hMk
  clear e hp hM hMk
  go_wp2_with fail
  refine (zCY HM.out 1 (by decide) n0 n1).mono ?_
  rintro r w2 ⟨rfl, l3, hQ, hQl, hQk⟩
  have HQ := zIc hQ
  have HQk := zIc hQk
  clear hQ hQk c0 c1 c2 c3 c4 c5 c6 c7 c8 f7 HM
  go_wp2
  go_ret
  exact ⟨rfl, z, hz, l3, ⟨_, _, _, by rw [zFH n1 HP.out]; exact HQ.out⟩, (HST.out.same hMl HMk.out).same hQl HQk.out⟩
 ·have e : ((y.T.step (pl k) Y.C Y.now z).ph != 0) = true := by simp [hp]
  rw [e]
  have HP := zIc hp
  have hilt' : (i : Int) < (Y.ds.length : Int) := by omega
  have HY2 := zIc (YAt.later HY1.out (Below.refl _ _).drew)
  clear e hp
  go_wp2_with fail
  refine zAD ((fun w' => AtY w' B (.slice (some ⟨g, 0, none⟩) Y.ds.length cap) Y.moves Y.now ∧ AtTh w' B k y.b i)) ((0, true) :: (1, true) :: (2, true) :: (3, true) :: (4, true) :: (5, true) :: (6, true) :: (7, true) :: (8, true) :: (9, true) :: []) (by kernel_rfl) (by kernel_rfl) (by kernel_rfl) (by decide) (fun _ _ _ _ _ h => h) (⟨HY2.out.cells, HY2.out.rowAt.at' _ _ HA1.out, HY2.out.rowAt.at' _ _ HA2.out⟩) ?_
  repeat ((first | (refine zAC (v := ?_) rfl ?_ ?_ ?_; rotate_left 1; rfl; focus (rintro wS ⟨⟨c0, c1, c2, c3, c4, c5, c6, c7, c8⟩, ⟨d0, d1⟩⟩; go_simp <;> with_reducible rfl)) | (refine zAB rfl ?_ ?_; rfl)); try simp only [Act.put, qset])
  refine zAJ ?_
  replace HY2 := zIc (YAt.later HY2.out (Below.refl _ _).drew)
  go_wp2_with fail
  refine zAD ((fun w' => AtY w' B (.slice (some ⟨g, 0, none⟩) Y.ds.length cap) Y.moves Y.now ∧ AtTh w' B k y.b i)) ((0, true) :: (1, true) :: (2, true) :: (3, true) :: (4, true) :: (5, true) :: (6, true) :: (7, true) :: (8, true) :: (9, true) :: (10, false) :: (11, true) :: (12, true) :: (13, false) :: (14, true) :: (15, true) :: (16, false) :: []) (by kernel_rfl) (by kernel_rfl) (by kernel_rfl) (by decide) (fun _ _ _ _ _ h => h) (⟨HY2.out.cells, HY2.out.rowAt.at' _ _ HA1.out, HY2.out.rowAt.at' _ _ HA2.out⟩) ?_
  repeat ((first | (refine zAC (v := ?_) rfl ?_ ?_ ?_; rotate_left 1; rfl; focus (rintro wS ⟨⟨c0, c1, c2, c3, c4, c5, c6, c7, c8⟩, ⟨d0, d1⟩⟩; go_simp <;> with_reducible rfl)) | (refine zAB rfl ?_ ?_; rfl)); try simp only [Act.put, qset])
  refine zAG rfl (fun K hK => ?_)
  go_simp
  go_at_call 73
  refine ((HY2.out.hold.task 0 (J k) (by omega) HY2.out.mem HJ.out).reply HOk.out).mono ?_
  rintro r w2 ⟨rfl, hb⟩
  (try go_wp2_with fail)
  replace HY2 := zIc (YAt.later HY2.out hb)
  clear hb
  rw [Dd.over_reply dd Y.moves (y.T.step (pl k) Y.C Y.now z) HO6.out.2.2]
  have HDS := zIc (Dd.over_form dd Y.moves (y.T.step (pl k) Y.C Y.now z))
  have HSO := zIc (zGW (P := pl k) (k := k) n1 HP.out HO5.out)
  generalize dd.over Y.moves (y.T.step (pl k) Y.C Y.now z) = dd' at HDS HSO ⊢
  have hgy : g ≠ B.yb := fun e => HY2.out.dne.1 (e ▸ rfl)
  have hgt : g ≠ B.tb := fun e => HY2.out.dne.2 (e ▸ rfl)
  have hcell : ∀ j u, j < 11 → dd.list[j]? = some u → w2.cell? ⟨g, i * 11 + j, none⟩ = some u := fun j u hj hu => (HY2.out.own.cellAt _ (by show i * 11 + j < Y.ds.length * 11; omega)).trans ((zDM HO5.out hj).trans hu)
  have hfz := fun j => HY2.out.own.frozenAt j
  have e6 := hcell 6 _ (by decide) rfl
  have e7 := hcell 7 _ (by decide) rfl
  have e8 := hcell 8 _ (by decide) rfl
  have e9 := hcell 9 _ (by decide) rfl
  have e10 := hcell 10 _ (by decide) rfl
  have f6 := hfz (i * 11 + 6)
  have f7 := hfz (i * 11 + 7)
  have f8 := hfz (i * 11 + 8)
  have f9 := hfz (i * 11 + 9)
  have f10 := hfz (i * 11 + 10)
  clear hcell hfz
  have HYB := zIc HY2.out.objAt
  have HTB := zIc HY2.out.rowAt
  refine hK.out _ _ (⟨HY2.out.cells, HY2.out.rowAt.at' _ _ HA1.out, HY2.out.rowAt.at' _ _ HA2.out⟩) (fun _ => ?_)
  (try simp only [Act.put, qset])
  clear hK K
  repeat ((first | (refine zAC (v := ?_) rfl ?_ ?_ ?_; rotate_left 1; rfl; focus (rintro wS ⟨⟨c0, c1, c2, c3, c4, c5, c6, c7, c8⟩, ⟨d0, d1⟩⟩; go_simp <;> with_reducible rfl)) | (refine zAB rfl ?_ ?_; rfl)); try simp only [Act.put, qset])
  refine zAG rfl (fun K hK => ?_)
  go_simp
  have HYB1 := zIc (HYB.out.other (i * 11 + 6) (i64 Y.moves) hgy)
  have HTB1 := zIc (HTB.out.other (i * 11 + 6) (i64 Y.moves) hgt)
  refine hK.out _ _ (⟨AtY.of HYB1.out, HTB1.out.at' _ _ HA1.out, HTB1.out.at' _ _ HA2.out⟩) (fun _ => ?_)
  (try simp only [Act.put, qset])
  clear hK K
  repeat ((first | (refine zAC (v := ?_) rfl ?_ ?_ ?_; rotate_left 1; rfl; focus (rintro wS ⟨⟨c0, c1, c2, c3, c4, c5, c6, c7, c8⟩, ⟨d0, d1⟩⟩; go_simp <;> with_reducible rfl)) | (refine zAB rfl ?_ ?_; rfl)); try simp only [Act.put, qset])
  refine zAG rfl (fun K hK => ?_)
  go_simp
  have HYB2 := zIc ((((HYB1.out.other (i * 11 + 7) (.bool dd'.ok) hgy).other (i * 11 + 8) (u64 dd'.v) hgy).other (i * 11 + 9) (i64 dd'.lo) hgy).other (i * 11 + 10) (i64 dd'.hi) hgy)
  have HTB2 := zIc ((((HTB1.out.other (i * 11 + 7) (.bool dd'.ok) hgt).other (i * 11 + 8) (u64 dd'.v) hgt).other (i * 11 + 9) (i64 dd'.lo) hgt).other (i * 11 + 10) (i64 dd'.hi) hgt)
  refine hK.out _ _ (⟨AtY.of HYB2.out, HTB2.out.at' _ _ HA1.out, HTB2.out.at' _ _ HA2.out⟩) (fun _ => ?_)
  (try simp only [Act.put, qset])
  clear hK K
  refine zAJ ?_
  obtain ⟨l2, hD, hDl, hDk⟩ := HY2.out.setDeed (dd' := dd') rfl HO5.out HDS.out.1
  rw [HDS.out.2] at hD
  have HD := zIc hD
  have HDk := zIc hDk
  clear hD hDk HYB HTB HYB1 HTB1 HYB2 HTB2 e6 e7 e8 e9 e10 f6 f7 f8 f9 f10 HY1 HY2
  obtain ⟨c0, c1, c2, c3, c4, c5, c6, c7, c8⟩ := HD.out.cells
  have f7 := HD.out.objAt.fz 7
  have d0 := HD.out.rowAt.at' _ _ HA1.out
  have g0 := HD.out.rowAt.fz (k * 2)
  have hty := HD.out.ne
  obtain ⟨l3, hM, hMl, hMk⟩ := ymoves (HD.out.end hk)
  have HM := zIc hM
  have HMk := zIc hMk
  clear hM hMk
  go_wp2_with fail
  refine (zCY HM.out 1 (by decide) n0 n1).mono ?_
  rintro r w3 ⟨rfl, l4, hQ, hQl, hQk⟩
  have HQ := zIc hQ
  have HQk := zIc hQk
  clear hQ hQk c0 c1 c2 c3 c4 c5 c6 c7 c8 f7 d0 g0 HM HD
  go_wp2
  go_ret
  refine ⟨rfl, z, hz, l4, ⟨_, _, _, by have hq := HQ.out; rw [List.set_set] at hq; rw [HSO.out]; exact hq⟩, ((HST.out.same hDl HDk.out).same (hMl.trans (by rw [List.length_set])) (fun j A hj hA => HMk.out j A hj ?_)).same hQl HQk.out⟩
  rw [List.getElem?_set_ne (by omega)]
  exact hA
structure YCf (B : YB) (N : Nat) : Prop where
 lay : Lay B.t B.s N
 o0 : 0 ≤ B.so
 o1 : B.so ≤ 4
 d0 : 0 ≤ B.d
 d1 : B.d ≤ 100
def plOf (B : YB) (N : Nat) (k : Nat) : Pl := ⟨N, (k : Int) * B.s, 2 * N + B.T, 2 * N, 2 * N + k⟩
theorem YCf.own {B : YB} {N k : Nat} (h : YCf B N) (hT : (B.T : Int) = B.t) (hk : k < B.T) : 0 ≤ (k : Int) * B.s ∧ (k : Int) * B.s + B.s ≤ N := by
 have s1 := h.lay.s1
 have e := h.lay.eq
 have h1 : 0 ≤ (k : Int) * B.s := Int.mul_nonneg (by omega) (by omega)
 have h2 : ((k : Int) + 1) * B.s ≤ B.t * B.s := Int.mul_le_mul_of_nonneg_right (by omega) (by omega)
 rw [Int.add_mul, Int.one_mul] at h2
 omega
abbrev wkB (B : YB) (N k : Nat) (take : Bool) (e x s : Int) : Wk := wk0 B.t B.s B.so B.d k take e x s ((k : Int) * B.s) N
theorem zGh (h : YAt W w l B Y J v vd X) (k : Int) (hk : k < 0 ∨ B.t ≤ k) (kd e x s : Int) :
  Calls Tryz.prog 34 #[pt B.yb, i64 k, callV kd e x s] w fun r w' => r = .returned (i64 1) ∧ Below w.heap.size w w' := by
 have hB0 := zAA (Below.refl w.heap.size w) (.cells #[i64 kd, i64 e, u64 x, i64 s] 37)
 have HT := zIc (zCq (h.later hB0) k hk)
 have HB0 := zIc hB0
 clear h hB0
 go_enter Tryz.func34, Tryz.ntmps34
 go_wp2_with fail
 refine HT.out.mono ?_
 rintro r w' ⟨rfl, rfl⟩
 go_wp2
 go_ret
 exact ⟨rfl, HB0.out⟩
theorem zEP (h : YAt W w l B Y J v vd X) (k : Nat) (hk : k < B.T) (kd e x s : Int) (hc : ¬ ((kd = 0 ∨ kd = 1) ∧ (e = 0 ∨ e = 1))) :
  Calls Tryz.prog 34 #[pt B.yb, i64 k, callV kd e x s] w fun r w' => r = .returned (i64 1) ∧ Below w.heap.size w w' := by
 have hB0 := zAA (Below.refl w.heap.size w) (.cells #[i64 kd, i64 e, u64 x, i64 s] 37)
 have HT := zIc (zBN (h.later hB0) k hk)
 have HB0 := zIc hB0
 have HR := fun w => zBe kd e x s w
 rw [decide_eq_false hc] at HR
 replace HR := zIc HR
 clear h hB0
 go_enter Tryz.func34, Tryz.ntmps34
 go_wp2_with fail
 refine HT.out.mono ?_
 rintro r w' ⟨rfl, rfl⟩
 go_wp2_with fail
 refine (HR.out _).mono ?_
 rintro r w' ⟨rfl, hb⟩
 have HB1 := zIc (zAE HB0.out hb)
 clear hb
 go_wp2
 go_ret
 exact ⟨rfl, HB1.out⟩
theorem zFA (h : YAt W w l B Y J v vd X) (k : Nat) (q : Wk × Nat) (hq : Y.ts[k]? = some (some q)) (kd e x s : Int) (hc : (kd = 0 ∨ kd = 1) ∧ (e = 0 ∨ e = 1)) :
  Calls Tryz.prog 34 #[pt B.yb, i64 k, callV kd e x s] w fun r w' => r = .returned (i64 2) ∧ Below w.heap.size w w' := by
 have hk : k < B.T := by have := (List.getElem?_eq_some_iff.1 hq).1; have := h.tl; omega
 have hB0 := zAA (Below.refl w.heap.size w) (.cells #[i64 kd, i64 e, u64 x, i64 s] 37)
 have HT := zIc (zBN (h.later hB0) k hk)
 have HB0 := zIc hB0
 have HR := fun w => zAt kd e x s w hc.1 hc.2
 replace HR := zIc HR
 obtain ⟨y, a1, _⟩ := h.busy k q.1 q.2 hq
 have HX := zIc ((h.later hB0).rowAt)
 have HA1 := zIc a1
 clear h hB0 hq hc a1
 go_enter Tryz.func34, Tryz.ntmps34
 go_wp2_with fail
 refine HT.out.mono ?_
 rintro r w' ⟨rfl, rfl⟩
 go_wp2_with fail
 refine (HR.out _).mono ?_
 rintro r w' ⟨rfl, hb⟩
 have HB1 := zIc (zAE HB0.out hb)
 have d0 := (HX.out.later hb).at' _ _ HA1.out
 clear hb
 go_wp2
 go_ret
 exact ⟨rfl, HB1.out⟩
structure AtQ (w : World) (b : Nat) (kd e x s : Int) : Prop where
 q0 : w.cell? ⟨b, 0, none⟩ = some (i64 kd)
 q1 : w.cell? ⟨b, 1, none⟩ = some (i64 e)
 q2 : w.cell? ⟨b, 2, none⟩ = some (u64 x)
 q3 : w.cell? ⟨b, 3, none⟩ = some (i64 s)
theorem AtQ.of {w : World} {b : Nat} {kd e x s : Int} (h : IsObj w b [i64 kd, i64 e, u64 x, i64 s]) : AtQ w b kd e x s := ⟨h.at' 0 _ rfl, h.at' 1 _ rfl, h.at' 2 _ rfl, h.at' 3 _ rfl⟩
theorem src_dd (w W : World) (d : Dd) (h : W.heap = (w.alloc (.cells d.list.toArray 77)).heap) : Src W 11 (some ⟨w.heap.size, 0, none⟩) 1 d.list :=
 have k := zBE w d.list 77 11 1 rfl d.one
 ⟨k.nil, k.len, fun ad had j u hj => (World.cell?_of_block (w := w.alloc _) (by rw [h])).trans (k.at' ad had j u hj), k.one⟩
theorem YAt.grew {W' w1 : World} {v' : Value} {n : Nat} {xs : List Value} (h : YAt W w l B Y J v vd X) (hW : Below w.heap.size w W') (hG : Grew W' w1 W.heap.size 77 11 vd v' n xs) : w1.cell? ⟨B.yb, 6, none⟩ = some vd ∧ w1.frozen? ⟨B.yb, 6, none⟩ = false := by
 have h' := h.later hW
 have hne := h.dne.1
 exact ⟨hG.grown.cell h'.cells.c6 (fun e => hne e.symm), (World.frozen?_of_block (a := ⟨B.yb, 6, none⟩) (hG.grown.block B.yb h'.objAt.lt (fun e => hne e.symm))).trans (h'.objAt.fz 6)⟩
theorem zGd {N k : Nat} (hc : YCf B N) (h : YAt W w l B Y J v vd X) (take : Bool) {kd : Int} (hkd : kdI take = kd) (e x s : Int) (he : e = 0 ∨ e = 1) (hw : Y.ts[k]? = some none) (hds : Y.ds.length ≤ Y.moves) (hm : Y.moves < 1000000) :
  Calls Tryz.prog 34 #[pt B.yb, i64 k, callV kd e x s] w fun r w' => r = .returned (i64 0) ∧ ∃ l' J', YH W w' l' B (Y.call k kd e x s (wkB B N k take e x s)) J' ∧ YGo Y (Y.call k kd e x s (wkB B N k take e x s)) l l' J J' := by
 have hk : k < B.T := by have := (List.getElem?_eq_some_iff.1 hw).1; have := h.tl; omega
 obtain ⟨m0, m1⟩ := hc.own h.hT hk
 have hkt : (k : Int) < B.t := by have := h.hT; omega
 have hB0 := zAA (Below.refl w.heap.size w) (.cells #[i64 kd, i64 e, u64 x, i64 s] 37)
 have hO0 := IsObj.made w [i64 kd, i64 e, u64 x, i64 s] 37
 have HT := zIc (zBN (h.later hB0) k hk)
 have HR := fun w => zAt kd e x s w (by cases take; exact .inl hkd.symm; exact .inr hkd.symm) he
 replace HR := zIc HR
 have hidle := h.idle k hw
 have hxl := h.xl
 obtain ⟨xv, hxv⟩ : ∃ xv, X[k * 2 + 1]? = some xv := ⟨_, List.getElem?_eq_getElem (by omega)⟩
 obtain ⟨A, cap, rfl⟩ := zAK h.own
 have HNE := zIc (show B.tb ≠ w.heap.size from Nat.ne_of_lt h.rowAt.lt)
 have HY := zIc (h.later hB0)
 have HI := zIc hidle
 have HXV := zIc hxv
 have HW := zIc hw
 have HO := zIc hO0
 clear h hB0 hw hidle hO0 hxv hxl
 go_enter Tryz.func34, Tryz.ntmps34
 go_wp2_with fail
 refine HT.out.mono ?_
 rintro r w' ⟨rfl, rfl⟩
 go_wp2_with fail
 refine (HR.out _).mono ?_
 rintro r w1 ⟨rfl, hb⟩
 have HY1 := zIc (YAt.later HY.out hb)
 have HO1 := zIc (HO.out.later hb)
 have d0 := HY1.out.rowAt.at' _ _ HI.out
 clear hb HY HO HT
 go_wp2_with fail
 clear d0
 replace HY1 := zIc (YAt.later HY1.out (Below.refl _ _).drew)
 replace HO1 := zIc (HO1.out.later (Below.refl _ _).drew)
 generalize w.heap.size = cb at HO1 HNE ⊢
 have hne := HNE.out
 refine zAD ((fun w' => AtY w' B (.slice A Y.ds.length cap) Y.moves Y.now ∧ AtQ w' cb kd e x s)) ((0, true) :: (1, true) :: (2, true) :: (3, true) :: (4, true) :: (5, true) :: (6, true) :: (8, true) :: (9, true) :: (10, true) :: (11, true) :: (12, true) :: (7, false) :: (13, true) :: (14, true) :: (15, false) :: []) (by kernel_rfl) (by kernel_rfl) (by kernel_rfl) (by decide) (fun _ _ _ _ _ h => h) (⟨HY1.out.cells, AtQ.of HO1.out⟩) ?_
 repeat ((first | (refine zAC (v := ?_) rfl ?_ ?_ ?_; rotate_left 1; rfl; focus (rintro wS ⟨⟨c0, c1, c2, c3, c4, c5, c6, c7, c8⟩, ⟨q0, q1, q2, q3⟩⟩; go_simp <;> with_reducible rfl)) | (refine zAB rfl ?_ ?_; rfl)); try simp only [Act.put, qset])
 refine zAG rfl (fun K hK => ?_)
 go_simp
 go_at_call 71
 refine (HY1.out.hold.tnew (x := x) (start := s) take hkd hc.lay (by omega) hkt rfl m0 m1 he).mono ?_
 rintro r w3 ⟨b, B1, rfl, hH3, hb3, hn3⟩
 (try go_wp2_with fail)
 have HH3 := zIc hH3
 have HY3 := zIc (YAt.later HY1.out hb3)
 have HO3 := zIc (HO1.out.later hb3)
 have d0 := HY3.out.rowAt.at' _ _ HI.out
 have d1 := HY3.out.rowAt.at' _ _ HXV.out
 have f0 := HY3.out.rowAt.fz (k * 2)
 have f1 := HY3.out.rowAt.fz (k * 2 + 1)
 clear hH3 hb3
 refine hK.out _ _ (⟨HY3.out.cells, AtQ.of HO3.out⟩) (fun _ => ?_)
 (try simp only [Act.put, qset])
 clear hK K
 repeat ((first | (refine zAC (v := ?_) rfl ?_ ?_ ?_; rotate_left 1; rfl; focus (rintro wS ⟨⟨c0, c1, c2, c3, c4, c5, c6, c7, c8⟩, ⟨q0, q1, q2, q3⟩⟩; go_simp <;> with_reducible rfl)) | (refine zAB rfl ?_ ?_; rfl)); try simp only [Act.put, qset])
 refine zAG rfl (fun K hK => ?_)
 go_simp
 have HYB := zIc ((HY3.out.objAt.other (a := B.tb) (k * 2) (pt b) HY3.out.ne).other (a := B.tb) (k * 2 + 1) (i64 Y.ds.length) HY3.out.ne)
 have HOB := zIc ((HO3.out.other (a := B.tb) (k * 2) (pt b) hne).other (a := B.tb) (k * 2 + 1) (i64 Y.ds.length) hne)
 refine hK.out _ _ (⟨AtY.of HYB.out, AtQ.of HOB.out⟩) (fun _ => ?_)
 (try simp only [Act.put, qset])
 clear hK K
 refine zAJ ?_
 have HYb : Hid (YAt W ((w3.setCell ⟨B.tb, k * 2, none⟩ (.pointer (some ⟨b, 0, none⟩))).setCell ⟨B.tb, k * 2 + 1, none⟩ (.int .i64 (Y.ds.length : Nat))) _ B { Y with ts := Y.ts.set k (some (wkB B N k take e x s, Y.ds.length)) } (fun j => if j = k then l.length else J j) v (.slice A Y.ds.length cap) _) := zIc (HY1.out.begin (i := Y.ds.length) HW.out HH3.out)
 have HOB' : Hid (IsObj ((w3.setCell ⟨B.tb, k * 2, none⟩ (.pointer (some ⟨b, 0, none⟩))).setCell ⟨B.tb, k * 2 + 1, none⟩ (.int .i64 (Y.ds.length : Nat))) cb [i64 kd, i64 e, u64 x, i64 s]) := HOB
 have HK : Hid (∀ j A', 4 ≤ j → l[j]? = some A' → ((l ++ [wT W.heap.size ⟨b, B1, kd, e, x, s, wkB B N k take e x s⟩]).set 2 (tObj W.heap.size B.tb ((X.set (k * 2) (pt b)).set (k * 2 + 1) (i64 Y.ds.length))))[j]? = some A') := zIc (fun j A' hj hA => by rw [List.getElem?_set_ne (by omega), List.getElem?_append_left (List.getElem?_eq_some_iff.1 hA).1]; exact hA)
 have HLN : Hid (((l ++ [wT W.heap.size ⟨b, B1, kd, e, x, s, wkB B N k take e x s⟩]).set 2 (tObj W.heap.size B.tb ((X.set (k * 2) (pt b)).set (k * 2 + 1) (i64 Y.ds.length)))).length = l.length + 1) := zIc (by rw [List.length_set, List.length_append]; rfl)
 clear d0 d1 f0 f1 HYB HO3 HO1 HH3 HY3 HY1 HOB hne
 rename_i xx1 xx2
 clear xx1 xx2
 generalize ((w3.setCell ⟨B.tb, k * 2, none⟩ (.pointer (some ⟨b, 0, none⟩))).setCell ⟨B.tb, k * 2 + 1, none⟩ (.int .i64 (Y.ds.length : Nat))) = w4 at HYb HOB' ⊢
 generalize ((l ++ [wT W.heap.size ⟨b, B1, kd, e, x, s, wkB B N k take e x s⟩]).set 2 (tObj W.heap.size B.tb ((X.set (k * 2) (pt b)).set (k * 2 + 1) (i64 Y.ds.length)))) = l4 at HYb HK HLN
 generalize ((X.set (k * 2) (pt b)).set (k * 2 + 1) (i64 Y.ds.length)) = X4 at HYb
 obtain ⟨c0, c1, c2, c3, c4, c5, c6, c7, c8⟩ := HYb.out.cells
 obtain ⟨q0, q1, q2, q3⟩ := AtQ.of HOB'.out
 have hlty := HYb.out.objAt.lt
 have hltc := HOB'.out.lt
 clear HOB'
 go_wp2_with fail
 go_region_law (refine zBH rfl _ _ 57 rfl W.heap.size 77 _ 11 88 zGU (.slice A Y.ds.length cap) Y.ds.length (flatD Y.ds) rfl ?_ (some ⟨w4.heap.size, 0, none⟩) 1 1 (Dd.list ⟨k, kd, e, x, s, Y.moves, -1, false, 0, 0, 0⟩) rfl ?_ (by unfold maxLen; omega) (by omega) ?_ ?_; (focus exact (HYb.out.later (by first | exact (zAA (Below.refl _ _) _).drew | exact zAA (Below.refl _ _).drew _)).own); (focus exact src_dd w4 _ ⟨k, kd, e, x, s, Y.moves, -1, false, 0, 0, 0⟩ rfl); (focus exact (HYb.out.later (by first | exact (zAA (Below.refl _ _) _).drew | exact zAA (Below.refl _ _).drew _)).hold.size); intro vd' w5 hG; have HG := HYb.out.grew (by first | exact (zAA (Below.refl _ _) _).drew | exact zAA (Below.refl _ _).drew _) hG; obtain ⟨c6', f6'⟩ := HG; obtain ⟨A', cap', rfl⟩ := zAK hG.own; replace hG := zIc hG)
 all_goals
  have HD := zIc ((HYb.out.later (by first | exact (zAA (Below.refl _ _) _).drew | exact zAA (Below.refl _ _).drew _)).addDeed ⟨k, kd, e, x, s, Y.moves, -1, false, 0, 0, 0⟩ hG.out)
  obtain ⟨l6, hM, hMl, hMk⟩ := ymoves HD.out
  have HM := zIc hM
  have HMk := zIc hMk
  clear c0 c1 c2 c3 c4 c5 c6 c7 c8 q0 q1 q2 q3 c6' f6' hG hM hMk HYb
  have c7 := HD.out.cells.c7
  have f7 := HD.out.objAt.fz 7
  clear HD
  go_wp2
  go_ret
  refine ⟨rfl, l6, _, ⟨_, _, _, HM.out⟩, ?_, fun j A1 hj hf => ?_, fun j hj hf => ⟨hf.1, fun k1 a1 hk1 => ?_⟩⟩
  ·rw [hMl, List.length_set, List.length_set, HLN.out]
   omega
  ·refine HMk.out j A1 hf.1 ?_
   rw [List.getElem?_set_ne (by have := hf.1; omega), List.getElem?_set_ne (by have := hf.1; omega)]
   exact HK.out j A1 hf.1 hj
  ·rcases yset hk1 with ⟨e1, _, _⟩ | ⟨e1, hk1⟩
   ·simp only [e1.symm, if_true]
    omega
   ·have e2 : ¬ k1 = k := fun e => e1 e.symm
    simp only [e2, if_false]
    exact hf.2 k1 a1 hk1
end
end
section
open Go.RowKit
section
variable {W w w' : World} {l : List Thing} {B : YB} {Y : Yd} {J : Nat → Nat} {v vd : Value} {X : List Value}
theorem zFU {R : Value → World → Prop} {wb : Nat} (h : YAt W w l B Y J v vd X) (hin : ∀ w1, Below w.heap.size w w1 → Calls Tryz.prog 53 #[.pointer (some ⟨wb, 0, none⟩)] w1 fun r w' => ∃ u, r = .returned u ∧ R u w') :
  Calls Tryz.prog 52 #[pt B.yb, .func (.func 53) #[] #[.pointer (some ⟨wb, 0, none⟩)]] w fun r w' => ∃ u, r = .returned u ∧ R u w' := by
 have c4 := h.cells.c4
 have HIN := zIc hin
 clear h hin
 go_enter Tryz.func52, Tryz.ntmps52
 go_wp2_with fail
 refine (HIN.out _ (by first | exact Below.refl _ _ | exact zAA (Below.refl _ _) _)).mono ?_
 rintro r w1 ⟨u, rfl, hR⟩
 have HR := zIc hR
 clear hR HIN
 go_wp2
 go_ret
 exact ⟨_, rfl, HR.out⟩
theorem zHj {R : Value → World → Prop} {wb : Nat} (h : YAt W w l B Y J v vd X) (hin : ∀ w1, Below w.heap.size w w1 → Calls Tryz.prog 62 #[.pointer (some ⟨wb, 0, none⟩)] w1 fun r w' => ∃ u, r = .returned u ∧ R u w') :
  Calls Tryz.prog 61 #[pt B.yb, .func (.func 62) #[] #[.pointer (some ⟨wb, 0, none⟩)]] w fun r w' => ∃ u, r = .returned u ∧ R u w' := by
 have c4 := h.cells.c4
 have HIN := zIc hin
 clear h hin
 go_enter Tryz.func61, Tryz.ntmps61
 go_wp2_with fail
 refine (HIN.out _ (by first | exact Below.refl _ _ | exact zAA (Below.refl _ _) _)).mono ?_
 rintro r w1 ⟨u, rfl, hR⟩
 have HR := zIc hR
 clear hR HIN
 go_wp2
 go_ret
 exact ⟨_, rfl, HR.out⟩
theorem zE6 {R : Value → World → Prop} {wb : Nat} (h : YAt W w l B Y J v vd X) (hin : ∀ w1, Below w.heap.size w w1 → Calls Tryz.prog 66 #[.pointer (some ⟨wb, 0, none⟩)] w1 fun r w' => ∃ u, r = .returned u ∧ R u w') :
  Calls Tryz.prog 65 #[pt B.yb, .func (.func 66) #[] #[.pointer (some ⟨wb, 0, none⟩)]] w fun r w' => ∃ u, r = .returned u ∧ R u w' := by
 have c4 := h.cells.c4
 have HIN := zIc hin
 clear h hin
 go_enter Tryz.func65, Tryz.ntmps65
 go_wp2_with fail
 refine (HIN.out _ (by first | exact Below.refl _ _ | exact zAA (Below.refl _ _) _)).mono ?_
 rintro r w1 ⟨u, rfl, hR⟩
 have HR := zIc hR
 clear hR HIN
 go_wp2
 go_ret
 exact ⟨_, rfl, HR.out⟩
theorem zGl {wb : Nat} (h : YAt W w l B Y J v vd X) (hin : ∀ w1, Below w.heap.size w w1 → Calls Tryz.prog 60 #[.pointer (some ⟨wb, 0, none⟩)] w1 fun r w' => r = .returned (cf B.t B.s B.so B.d) ∧ Below w1.heap.size w1 w') :
  Calls Tryz.prog 59 #[pt B.yb, .func (.func 60) #[] #[.pointer (some ⟨wb, 0, none⟩)]] w fun r w' => r = .returned (cf B.t B.s B.so B.d) ∧ Below w.heap.size w w' := by
 have c4 := h.cells.c4
 have HIN := zIc hin
 have HO := zIc (IsObj.made w [i64 0, i64 0, i64 0, i64 0] 24)
 have hB0 := zAA (Below.refl w.heap.size w) (.cells #[i64 0, i64 0, i64 0, i64 0] 24)
 have HB0 := zIc hB0
 have hlt := h.objAt.lt
 clear h hin hB0
 go_enter Tryz.func59, Tryz.ntmps59
 go_wp2_with fail
 refine (HIN.out _ HB0.out).mono ?_
 rintro r w1 ⟨rfl, hb⟩
 have HB1 := zIc (zAE HB0.out hb)
 have HO1 := zIc (HO.out.later hb)
 have q0 := HO1.out.at' 0 _ rfl
 have q1 := HO1.out.at' 1 _ rfl
 have q2 := HO1.out.at' 2 _ rfl
 have q3 := HO1.out.at' 3 _ rfl
 have f0 := HO1.out.fz 0
 have f1 := HO1.out.fz 1
 have f2 := HO1.out.fz 2
 have f3 := HO1.out.fz 3
 clear hb HIN HB0 HO
 go_wp2
 have HO5 := zIc ((((HO1.out.set 0 (i64 B.t)).set 1 (i64 B.s)).set 2 (i64 B.so)).set 3 (i64 B.d))
 have HB5 : Below w.heap.size w ((((w1.setCell ⟨w.heap.size, 0, none⟩ (i64 B.t)).setCell ⟨w.heap.size, 1, none⟩ (i64 B.s)).setCell ⟨w.heap.size, 2, none⟩ (i64 B.so)).setCell ⟨w.heap.size, 3, none⟩ (i64 B.d)) := zAF (zAF (zAF (zAF HB1.out (by simp) _) (by simp) _) (by simp) _) (by simp) _
 generalize ((((w1.setCell ⟨w.heap.size, 0, none⟩ (i64 B.t)).setCell ⟨w.heap.size, 1, none⟩ (i64 B.s)).setCell ⟨w.heap.size, 2, none⟩ (i64 B.so)).setCell ⟨w.heap.size, 3, none⟩ (i64 B.d)) = w5 at HO5 HB5 ⊢
 have r0 := HO5.out.at' 0 _ rfl
 have r1 := HO5.out.at' 1 _ rfl
 have r2 := HO5.out.at' 2 _ rfl
 have r3 := HO5.out.at' 3 _ rfl
 exact bodyPost_ret (v := cf B.t B.s B.so B.d) (by simp [results, Tryz.results59, go_sem, r0, r1, r2, r3]) rfl ⟨rfl, HB5⟩
theorem zCQ (h : YAt W w l B Y J v vd X) :
  Calls Tryz.prog 26 #[pt B.yb] w fun r w' => r = .returned (cf B.t B.s B.so B.d) ∧ Below w.heap.size w w' := by
 have hB0 := zAA (zAA (Below.refl w.heap.size w) (.cells #[pt B.yb] 41)) (.cells #[i64 0, i64 0, i64 0, i64 0] 24)
 have HY := zIc (h.later hB0)
 have HO : Hid (IsObj ((w.alloc (.cells #[pt B.yb] 41)).alloc (.cells #[.int .i64 0, .int .i64 0, .int .i64 0, .int .i64 0] 24)) w.heap.size [pt B.yb]) := zIc ((IsObj.made w [pt B.yb] 41).later (zAA (Below.refl _ _) (.cells #[i64 0, i64 0, i64 0, i64 0] 24)))
 have HC : Hid (IsObj ((w.alloc (.cells #[pt B.yb] 41)).alloc (.cells #[.int .i64 0, .int .i64 0, .int .i64 0, .int .i64 0] 24)) (w.heap.size + 1) [i64 0, i64 0, i64 0, i64 0]) := zIc (by have h := IsObj.made (w.alloc (.cells #[pt B.yb] 41)) [i64 0, i64 0, i64 0, i64 0] 24; simp only [World.size_alloc] at h; exact h)
 have HB0 : Hid (Below w.heap.size w ((w.alloc (.cells #[pt B.yb] 41)).alloc (.cells #[.int .i64 0, .int .i64 0, .int .i64 0, .int .i64 0] 24))) := zIc hB0
 clear h hB0
 go_enter Tryz.func26, Tryz.ntmps26
 go_wp2_with fail
 generalize ((w.alloc (.cells #[pt B.yb] 41)).alloc (.cells #[.int .i64 0, .int .i64 0, .int .i64 0, .int .i64 0] 24)) = w0 at HY HO HC HB0 ⊢
 refine (zGl (wb := w.heap.size) HY.out (fun w1 hb => ?_)).mono ?_
 ·have HY1 := zIc (HY.out.later hb)
  have q0 := (HO.out.later hb).at' 0 _ rfl
  have hltb : w.heap.size < w1.heap.size := (HO.out.later hb).lt
  have hlty := HY1.out.objAt.lt
  obtain ⟨c0, c1, c2, c3, c4, c5, c6, c7, c8⟩ := HY1.out.cells
  have HO1 := zIc (IsObj.made w1 [i64 0, i64 0, i64 0, i64 0] 24)
  have HB1 := zIc (zAA (Below.refl w1.heap.size w1) (.cells #[i64 0, i64 0, i64 0, i64 0] 24))
  clear HY HO HB0 hb HC
  go_enter Tryz.func60, Tryz.ntmps60
  go_wp2
  exact bodyPost_ret (v := cf B.t B.s B.so B.d) (by simp [results, Tryz.results60, go_sem]) rfl ⟨rfl, zAA (Below.refl _ _) _⟩
 ·rintro r w2 ⟨rfl, hb⟩
  have HB1 := zIc (zAE HB0.out hb)
  have HO1 := zIc (HC.out.later hb)
  clear hb
  have q0 := HO1.out.at' 0 _ rfl
  have q1 := HO1.out.at' 1 _ rfl
  have q2 := HO1.out.at' 2 _ rfl
  have q3 := HO1.out.at' 3 _ rfl
  have f0 := HO1.out.fz 0
  have f1 := HO1.out.fz 1
  have f2 := HO1.out.fz 2
  have f3 := HO1.out.fz 3
  go_wp2
  have HO5 := zIc ((((HO1.out.set 0 (i64 B.t)).set 1 (i64 B.s)).set 2 (i64 B.so)).set 3 (i64 B.d))
  have HB5 : Below w.heap.size w ((((w2.setCell ⟨w.heap.size + 1, 0, none⟩ (i64 B.t)).setCell ⟨w.heap.size + 1, 1, none⟩ (i64 B.s)).setCell ⟨w.heap.size + 1, 2, none⟩ (i64 B.so)).setCell ⟨w.heap.size + 1, 3, none⟩ (i64 B.d)) := zAF (zAF (zAF (zAF HB1.out (by simp) _) (by simp) _) (by simp) _) (by simp) _
  generalize ((((w2.setCell ⟨w.heap.size + 1, 0, none⟩ (i64 B.t)).setCell ⟨w.heap.size + 1, 1, none⟩ (i64 B.s)).setCell ⟨w.heap.size + 1, 2, none⟩ (i64 B.so)).setCell ⟨w.heap.size + 1, 3, none⟩ (i64 B.d)) = w5 at HO5 HB5 ⊢
  have r0 := HO5.out.at' 0 _ rfl
  have r1 := HO5.out.at' 1 _ rfl
  have r2 := HO5.out.at' 2 _ rfl
  have r3 := HO5.out.at' 3 _ rfl
  exact bodyPost_ret (v := cf B.t B.s B.so B.d) (by simp [results, Tryz.results26, go_sem, r0, r1, r2, r3]) rfl ⟨rfl, HB5⟩
theorem zHb (h : YAt W w l B Y J v vd X) (hL : Y.L.length ≤ 1000000000) :
  Calls Tryz.prog 27 #[pt B.yb] w fun r w' => LogPost Y.L w r w' := by
 have hB0 := zAA (Below.refl w.heap.size w) (.cells #[pt B.yb] 41)
 have HY := zIc (h.later hB0)
 have HO := zIc (IsObj.made w [pt B.yb] 41)
 have HB0 := zIc hB0
 clear h hB0
 go_enter Tryz.func27, Tryz.ntmps27
 go_wp2_with fail
 generalize w.alloc (.cells #[pt B.yb] 41) = w0 at HY HO HB0 ⊢
 refine (zHj (wb := w.heap.size) (R := fun u w' => w'.ownsRow w.heap.size 101 6 u Y.L.length (flatE Y.L) ∧ Below w.heap.size w w') HY.out (fun w1 hb => ?_)).mono ?_
 ·have HY1 := zIc (HY.out.later hb)
  have q0 := (HO.out.later hb).at' 0 _ rfl
  have hw1 := zAE HB0.out hb
  have HW1 := zIc hw1
  obtain ⟨c0, c1, c2, c3, c4, c5, c6, c7, c8⟩ := HY1.out.cells
  clear HY HO HB0 hb hw1
  have HM := zIc (show IsMem W.heap.size w1 B.p B.c v Y.C Y.L from HY1.out.hold.has 0 _ HY1.out.mem)
  clear HY1
  go_enter Tryz.func62, Tryz.ntmps62
  go_wp2_with fail
  refine (zH9 _ _ _ _ _ _ _ HM.out hL).mono ?_
  rintro r w2 ⟨u, rfl, hr, hb⟩
  have HR := zIc hr
  have HB := zIc hb
  clear hr hb
  go_wp2
  go_ret
  exact ⟨_, rfl, zDI HR.out (HW1.out.size), zAE HW1.out HB.out⟩
 ·rintro r w2 ⟨u, rfl, hR⟩
  have HR := zIc hR
  clear hR HY HO HB0
  go_wp2
  go_ret
  exact ⟨_, rfl, HR.out⟩
def DeedsPost (L : List Dd) (w : World) (r : Ending) (w' : World) : Prop :=
 ∃ v, r = .returned v ∧ w'.ownsRow w.heap.size 77 11 v L.length (flatD L) ∧ Below w.heap.size w w'
theorem zFf (base : Nat) (w : World) (v : Value) (L : List Dd) (h : w.ownsRow base 77 11 v L.length (flatD L)) (hL : L.length ≤ 1000000000) :
  Calls Tryz.prog 54 #[v] w (DeedsPost L w) := by
 rcases h.2 with ⟨rfl, h0⟩ | ⟨g, cap, cur, rfl, _, _⟩
 ·have hl : L = [] := List.eq_nil_of_length_eq_zero h0
  subst hl
  clear h h0
  have q := fun W => run_eql_nil_slice (P := Tryz.prog) W 57 77 none 0 0 0 0 Tryz.underlying57
  go_enter Tryz.func54, Tryz.ntmps54
  go_wp2
  go_ret
  exact ⟨_, rfl, World.ownsRow_nil _ _ _ _, Below.refl _ _⟩
 ·have hs := zHT h
  have Hs := zIc hs
  clear hs h
  have q := fun W => Lib.run_eql_slice_nil (P := Tryz.prog) W 57 77 (some ⟨g, 0, none⟩) L.length cap 0 0 Tryz.underlying57
  go_enter Tryz.func54, Tryz.ntmps54
  go_wp2_with (at_builtin; refine zAI rfl _ _ 57 rfl w.heap.size 77 _ 11 88 zGU (.slice (some ⟨w.heap.size, 0, none⟩) 0 0) 0 [] rfl (World.ownsRow_made w #[] 0 (Nat.le_refl _) (by unfold maxLen; omega) rfl) (some ⟨g, 0, none⟩) L.length cap (flatD L) rfl (zD3 Hs.out (zAA (Below.refl _ _) _)) (by unfold maxLen; omega) (by omega) (by simp) ?_; intro v' w1 hG)
  go_ret
  rw [Nat.zero_add, List.nil_append] at hG
  exact ⟨_, rfl, hG.own, zAc (zAA (Below.refl _ _) _) (Keep.of_grown (T := fun k => w.heap.size ≤ k) hG.grown (fun k hk => by cases hk; exact Nat.le_refl _)) (by simp) (fun i hi => hi)⟩
theorem zFM (h : YAt W w l B Y J v vd X) (hL : Y.ds.length ≤ 1000000000) :
  Calls Tryz.prog 21 #[pt B.yb] w fun r w' => DeedsPost Y.ds w r w' := by
 have hB0 := zAA (Below.refl w.heap.size w) (.cells #[pt B.yb] 41)
 have HY := zIc (h.later hB0)
 have HO := zIc (IsObj.made w [pt B.yb] 41)
 have HB0 := zIc hB0
 clear h hB0
 go_enter Tryz.func21, Tryz.ntmps21
 go_wp2_with fail
 generalize w.alloc (.cells #[pt B.yb] 41) = w0 at HY HO HB0 ⊢
 refine (zFU (wb := w.heap.size) (R := fun u w' => w'.ownsRow w.heap.size 77 11 u Y.ds.length (flatD Y.ds) ∧ Below w.heap.size w w') HY.out (fun w1 hb => ?_)).mono ?_
 ·have HY1 := zIc (HY.out.later hb)
  have q0 := (HO.out.later hb).at' 0 _ rfl
  have hw1 := zAE HB0.out hb
  have HW1 := zIc hw1
  obtain ⟨c0, c1, c2, c3, c4, c5, c6, c7, c8⟩ := HY1.out.cells
  clear HY HO HB0 hb hw1
  have HOW := zIc HY1.out.own
  obtain ⟨A0, cap0, rfl⟩ := zAK HOW.out
  clear HY1
  go_enter Tryz.func53, Tryz.ntmps53
  go_wp2_with fail
  refine (zFf _ _ _ _ HOW.out hL).mono ?_
  rintro r w2 ⟨u, rfl, hr, hb⟩
  have HR := zIc hr
  have HB := zIc hb
  clear hr hb
  go_wp2
  go_ret
  exact ⟨_, rfl, zDI HR.out (HW1.out.size), zAE HW1.out HB.out⟩
 ·rintro r w2 ⟨u, rfl, hR⟩
  have HR := zIc hR
  clear hR HY HO HB0
  go_wp2
  go_ret
  exact ⟨_, rfl, HR.out⟩
theorem zDX : ElemAt Tryz.prog 95 131 (.agg #[.pointer none, .int .i64 0]) 2 16 :=
 ElemAt.mk' Tryz.underlying95 (by kernel_rfl) rfl (by decide)
def thRow (T : Nat) : List Value := (madeCells (Value.agg #[.pointer none, .int .i64 0]).cells (T * 2)).toList
theorem zFx (T : Nat) : (thRow T).length = T * 2 := by
 unfold thRow
 rw [Array.length_toList, size_madeCells]
theorem zG9 {T k : Nat} (hk : k < T) : (thRow T)[k * 2]? = some (.pointer none) := by
 unfold thRow madeCells
 rw [Array.getElem?_toList, Array.getElem?_map, Array.getElem?_range, if_pos (by omega)]
 show some ((#[Value.pointer none, Value.int .i64 0] : Array Value)[k * 2 % 2]!) = _
 rw [Nat.mul_mod_left]
 rfl
theorem zBm {w : World} {base : Nat} {e : TypeId} {sz n cap g : Nat} {xs : List Value} (h : w.ownsRow base e sz (.slice (some ⟨g, 0, none⟩) n cap) n xs) : IsObj w g xs ∧ base ≤ g :=
 ⟨⟨fun j x hj => (h.cellAt j (by have := h.1; have := (List.getElem?_eq_some_iff.1 hj).1; omega)).trans hj, fun o => h.frozenAt o, (h.lt _ rfl).2⟩, (h.lt _ rfl).1⟩
theorem Hold.rot {W w : World} {a b c : Thing} (h : Hold W w [a, b, c]) : Hold W w [b, c, a] :=
 h.sel (fun j => if j = 0 then 1 else if j = 1 then 2 else 0) (fun i A hi => by
  match i with
  | 0 => exact hi
  | 1 => exact hi
  | 2 => exact hi
  | i + 3 => simp at hi) (fun i j hi hj he => by
  simp only [List.length_cons, List.length_nil] at hi hj
  split at he <;> split at he <;> (try split at he) <;> (try split at he) <;> omega)
def NewYard (W w : World) (T : Nat) (s so d : Int) (n : Nat) (r : Ending) (w' : World) : Prop :=
 ∃ yb tb p c l, r = .returned (.tuple #[pt yb, i64 0]) ∧ l.length = 4 ∧ YH W w' l ⟨yb, tb, p, c, T, s, so, d, T⟩ ⟨List.replicate n 0, [], 0, 0, List.replicate T none, []⟩ (fun _ => 0) ∧ Below w.heap.size w w' ∧ w.heap.size ≤ yb
theorem zDL {W w w' : World} {T n : Nat} {s so d : Int} {yb tb p c : Nat} (hB : Below w.heap.size w w') (hy : w.heap.size ≤ yb) (h : Hold W w' [tMem W.heap.size p c (.slice none 0 0) (List.replicate n 0) [], tObj W.heap.size yb [i64 T, i64 s, i64 so, i64 d, pt p, .slice (some ⟨tb, 0, none⟩) T T, .slice none 0 0, i64 0, i64 0], tObj W.heap.size tb (thRow T)]) :
  NewYard W w T s so d n (.returned (.tuple #[pt yb, i64 0])) w' :=
 have hH : Hold W w' ([tMem W.heap.size p c (.slice none 0 0) (List.replicate n 0) [], tObj W.heap.size yb [i64 T, i64 s, i64 so, i64 d, pt p, .slice (some ⟨tb, 0, none⟩) T T, .slice none 0 0, i64 0, i64 0], tObj W.heap.size tb (thRow T)] ++ [tRow W.heap.size 77 11 (.slice none 0 0) 0 []]) := h.more (Below.refl _ _) (zAy _ _ _ _ _ _) (World.ownsRow_nil _ _ _ _) (fun q hq => by cases hq)
 have h1 : ∀ (k : Nat), (List.replicate T (none : Option (Wk × Nat)))[k]? = some none → (thRow T)[k * 2]? = some (.pointer none) := fun k hk => by
  rw [List.getElem?_replicate] at hk
  split at hk
  ·exact zG9 (by assumption)
  ·cases hk
 have h2 : ∀ (k : Nat) (a : Wk × Nat), ¬ (List.replicate T (none : Option (Wk × Nat)))[k]? = some (some a) := fun k a hk => by
  rw [List.getElem?_replicate] at hk
  split at hk <;> cases hk
 ⟨yb, tb, p, c, _, rfl, rfl, ⟨_, _, _, hH, rfl, rfl, rfl, rfl, rfl, zFx T, List.length_replicate, h1, (fun k T' i hk => (h2 k _ hk).elim), (fun k k' a a' hk => (h2 k _ hk).elim)⟩, hB, hy⟩
theorem zGy (T : Nat) (s so d : Int) (N : Nat) (hB : Below W.heap.size W w) (hl : Lay T s N) (o0 : 0 ≤ so) (o1 : so ≤ 4) (d0 : 0 ≤ d) (d1 : d ≤ 100) :
  Calls Tryz.prog 13 #[cf T s so d] w (NewYard W w T s so d (2 * N + 2 * T)) := by
 have hr : rightC T s so d = true := decide_eq_true ⟨hl.t1, hl.t2, hl.s1, hl.s2, o0, o1, d0, d1⟩
 have HR := fun w => zCe T s so d w
 rw [hr] at HR
 replace HR := zIc HR
 have t2 := hl.t2
 have n2 := hl.n2
 obtain ⟨i, hi, hz0, hz1, hz2⟩ := zDX.info
 have HI := zIc hi
 have HZ0 := zIc hz0
 have HZ1 := zIc hz1
 have HZ2 := zIc hz2
 have hB0 := zAA (Below.refl w.heap.size w) (.cells #[i64 T, i64 s, i64 so, i64 d] 24)
 have HO := zIc (IsObj.made w [i64 T, i64 s, i64 so, i64 d] 24)
 have HB0 := zIc hB0
 have HW := zIc hB
 clear hr hB0 hi hz0 hz1 hz2 hB
 go_enter Tryz.func13, Tryz.ntmps13
 go_wp2_with fail
 refine (HR.out _).mono ?_
 rintro r w1 ⟨rfl, hb⟩
 have HB1 := zIc (zAE HB0.out hb)
 have HO1 := zIc (HO.out.later hb)
 clear hb HB0 HO
 go_wp2_with fail
 replace HB1 := zIc (zAE HB1.out (Below.refl _ _).drew)
 replace HO1 := zIc (HO1.out.later (Below.refl _ _).drew)
 have HH := zIc (Hold.nil (zAQ HW.out HB1.out HW.out.size))
 refine zA4 (fun w' => IsObj w' w.heap.size [i64 T, i64 s, i64 so, i64 d]) (.take 0 (.take 1 (.take 4 (.take 5 (.two 2 (.two 3 (.one 6 (.take 7 (.one 8 (.take 9 (.take 10 .nil))))) 6 (.one 3 (.take 7 (.one 8 (.take 9 (.take 10 .nil)))))) 6 (.one 2 (.one 3 (.take 7 (.one 8 (.take 9 (.take 10 .nil))))))))))) (by kernel_rfl) (by kernel_rfl) (by kernel_rfl) (by decide) (fun _ _ _ _ _ h => h) HO1.out ?_
 repeat (refine zAf (v := ?_) rfl ?_ ?_ ?_; rotate_left 1; rfl; (focus (intro wS hSw; have q0 := hSw.at' 0 _ rfl; have q1 := hSw.at' 1 _ rfl; have q2 := hSw.at' 2 _ rfl; have q3 := hSw.at' 3 _ rfl; go_simp; first | done | with_reducible rfl)); (try simp only [Act.put, qset]))
 refine ⟨?_, ?_⟩
 ·skip
  refine runT rfl (fun K hK => ?_)
  go_simp
  go_at_call 44
  refine (zC4 T s so d N _ hl).mono ?_
  rintro r w2 ⟨rfl, hb⟩
  (try go_wp2_with fail)
  replace HB1 := zIc (zAE HB1.out hb)
  replace HO1 := zIc (HO1.out.later hb)
  replace HH := zIc (HH.out.later hb)
  clear hb
  refine hK.out _ _ HO1.out (fun _ => ?_)
  (try simp only [Act.put, qset])
  clear hK K
  refine ⟨?_, ?_⟩
  ·skip
   refine runT rfl (fun K hK => ?_)
   go_simp
   go_at_call 43
   refine (zEL W.heap.size (2 * N + 2 * T) _ _ HH.out.size (by omega) (.inl (by omega))).mono ?_
   rintro r w3 ⟨p, c, rfl, hM, hb, hp, hc⟩
   (try go_wp2_with fail)
   replace HB1 := zIc (zAE HB1.out hb)
   replace HO1 := zIc (HO1.out.later hb)
   replace HH := zIc (HH.out.more hb (zAz _ _ _ _ _ _) hM (fun q hq => by
    rcases hq with rfl | rfl | hq
    ·exact hp
    ·exact hc
    ·cases hq))
   clear hb hM hp hc
   refine hK.out _ _ HO1.out (fun _ => ?_)
   (try simp only [Act.put, qset])
   clear hK K
   refine runT rfl (fun K hK => ?_)
   refine zAo rfl _ _ 95 rfl W.heap.size 131 i (.agg #[.pointer none, .int .i64 0]) 2 zDX.und HI.out HZ0.out HZ1.out .i64 .i64 T rfl rfl (by rw [HZ2.out]; omega) (by unfold maxLen; omega) HH.out.size ?_
   intro w4 hown hg
   have hb := (Below.refl _ _).grown hg (Nat.le_refl _) (fun k hk => by cases hk)
   replace HB1 := zIc (zAE HB1.out hb)
   replace HO1 := zIc (HO1.out.later hb)
   replace HH := zIc (HH.out.more (A := tObj W.heap.size _ (thRow T)) hb (zAM _ _ _) (zBm hown) (fun q hq => by cases hq; exact Nat.le_refl _))
   clear hb hown hg
   refine hK.out _ _ HO1.out (fun _ => ?_)
   (try simp only [Act.put, qset])
   clear hK K
   repeat (refine zAf (v := ?_) rfl ?_ ?_ ?_; rotate_left 1; rfl; (focus (intro wS hSw; go_simp; first | done | with_reducible rfl)); (try simp only [Act.put, qset]))
   refine runT rfl (fun K hK => ?_)
   go_simp
   have hb := zAA (Below.refl w4.heap.size w4) (.cells #[i64 T, i64 s, i64 so, i64 d, pt p, .slice (some ⟨w3.heap.size, 0, none⟩) T T, .slice none 0 0, i64 0, i64 0] 97)
   have hE := HH.out.more (A := tObj W.heap.size w4.heap.size [i64 T, i64 s, i64 so, i64 d, pt p, .slice (some ⟨w3.heap.size, 0, none⟩) T T, .slice none 0 0, i64 0, i64 0]) hb (zAM _ _ _) ⟨IsObj.made w4 [i64 T, i64 s, i64 so, i64 d, pt p, .slice (some ⟨w3.heap.size, 0, none⟩) T T, .slice none 0 0, i64 0, i64 0] 97, HH.out.size⟩ (fun q hq => by cases hq; exact Nat.le_refl _)
   have HE := zIc hE
   have HS := zIc HB1.out.size
   replace HB1 := zIc (zAE HB1.out hb)
   replace HO1 := zIc (HO1.out.later hb)
   clear hb hE HH
   refine hK.out _ _ HO1.out (fun _ => ?_)
   (try simp only [Act.put, qset])
   clear hK K
   repeat (refine zAf (v := ?_) rfl ?_ ?_ ?_; rotate_left 1; rfl; (focus (intro wS hSw; go_simp; first | done | with_reducible rfl)); (try simp only [Act.put, qset]))
   refine zAP ?_
   go_wp2
   go_ret2
   exact zDL HB1.out HS.out (HE.out.swap)
  ·skip
   refine runT rfl (fun K hK => ?_)
   refine zAo rfl _ _ 95 rfl W.heap.size 131 i (.agg #[.pointer none, .int .i64 0]) 2 zDX.und HI.out HZ0.out HZ1.out .i64 .i64 T rfl rfl (by rw [HZ2.out]; omega) (by unfold maxLen; omega) HH.out.size ?_
   intro w4 hown hg
   have hb := (Below.refl _ _).grown hg (Nat.le_refl _) (fun k hk => by cases hk)
   replace HB1 := zIc (zAE HB1.out hb)
   replace HO1 := zIc (HO1.out.later hb)
   replace HH := zIc (HH.out.more (A := tObj W.heap.size _ (thRow T)) hb (zAM _ _ _) (zBm hown) (fun q hq => by cases hq; exact Nat.le_refl _))
   clear hb hown hg
   refine hK.out _ _ HO1.out (fun _ => ?_)
   (try simp only [Act.put, qset])
   clear hK K
   refine runT rfl (fun K hK => ?_)
   go_simp
   go_at_call 43
   refine (zEL W.heap.size (2 * N + 2 * T) _ _ HH.out.size (by omega) (.inl (by omega))).mono ?_
   rintro r w3 ⟨p, c, rfl, hM, hb, hp, hc⟩
   (try go_wp2_with fail)
   replace HB1 := zIc (zAE HB1.out hb)
   replace HO1 := zIc (HO1.out.later hb)
   replace HH := zIc (HH.out.more hb (zAz _ _ _ _ _ _) hM (fun q hq => by
    rcases hq with rfl | rfl | hq
    ·exact hp
    ·exact hc
    ·cases hq))
   clear hb hM hp hc
   refine hK.out _ _ HO1.out (fun _ => ?_)
   (try simp only [Act.put, qset])
   clear hK K
   repeat (refine zAf (v := ?_) rfl ?_ ?_ ?_; rotate_left 1; rfl; (focus (intro wS hSw; go_simp; first | done | with_reducible rfl)); (try simp only [Act.put, qset]))
   refine runT rfl (fun K hK => ?_)
   go_simp
   have hb := zAA (Below.refl w3.heap.size w3) (.cells #[i64 T, i64 s, i64 so, i64 d, pt p, .slice (some ⟨w2.heap.size, 0, none⟩) T T, .slice none 0 0, i64 0, i64 0] 97)
   have hE := HH.out.more (A := tObj W.heap.size w3.heap.size [i64 T, i64 s, i64 so, i64 d, pt p, .slice (some ⟨w2.heap.size, 0, none⟩) T T, .slice none 0 0, i64 0, i64 0]) hb (zAM _ _ _) ⟨IsObj.made w3 [i64 T, i64 s, i64 so, i64 d, pt p, .slice (some ⟨w2.heap.size, 0, none⟩) T T, .slice none 0 0, i64 0, i64 0] 97, HH.out.size⟩ (fun q hq => by cases hq; exact Nat.le_refl _)
   have HE := zIc hE
   have HS := zIc HB1.out.size
   replace HB1 := zIc (zAE HB1.out hb)
   replace HO1 := zIc (HO1.out.later hb)
   clear hb hE HH
   refine hK.out _ _ HO1.out (fun _ => ?_)
   (try simp only [Act.put, qset])
   clear hK K
   repeat (refine zAf (v := ?_) rfl ?_ ?_ ?_; rotate_left 1; rfl; (focus (intro wS hSw; go_simp; first | done | with_reducible rfl)); (try simp only [Act.put, qset]))
   refine zAP ?_
   go_wp2
   go_ret2
   exact zDL HB1.out HS.out (HE.out.rot)
 ·skip
  refine runT rfl (fun K hK => ?_)
  refine zAo rfl _ _ 95 rfl W.heap.size 131 i (.agg #[.pointer none, .int .i64 0]) 2 zDX.und HI.out HZ0.out HZ1.out .i64 .i64 T rfl rfl (by rw [HZ2.out]; omega) (by unfold maxLen; omega) HH.out.size ?_
  intro w4 hown hg
  have hb := (Below.refl _ _).grown hg (Nat.le_refl _) (fun k hk => by cases hk)
  replace HB1 := zIc (zAE HB1.out hb)
  replace HO1 := zIc (HO1.out.later hb)
  replace HH := zIc (HH.out.more (A := tObj W.heap.size _ (thRow T)) hb (zAM _ _ _) (zBm hown) (fun q hq => by cases hq; exact Nat.le_refl _))
  clear hb hown hg
  refine hK.out _ _ HO1.out (fun _ => ?_)
  (try simp only [Act.put, qset])
  clear hK K
  refine runT rfl (fun K hK => ?_)
  go_simp
  go_at_call 44
  refine (zC4 T s so d N _ hl).mono ?_
  rintro r w2 ⟨rfl, hb⟩
  (try go_wp2_with fail)
  replace HB1 := zIc (zAE HB1.out hb)
  replace HO1 := zIc (HO1.out.later hb)
  replace HH := zIc (HH.out.later hb)
  clear hb
  refine hK.out _ _ HO1.out (fun _ => ?_)
  (try simp only [Act.put, qset])
  clear hK K
  refine runT rfl (fun K hK => ?_)
  go_simp
  go_at_call 43
  refine (zEL W.heap.size (2 * N + 2 * T) _ _ HH.out.size (by omega) (.inl (by omega))).mono ?_
  rintro r w3 ⟨p, c, rfl, hM, hb, hp, hc⟩
  (try go_wp2_with fail)
  replace HB1 := zIc (zAE HB1.out hb)
  replace HO1 := zIc (HO1.out.later hb)
  replace HH := zIc (HH.out.more hb (zAz _ _ _ _ _ _) hM (fun q hq => by
   rcases hq with rfl | rfl | hq
   ·exact hp
   ·exact hc
   ·cases hq))
  clear hb hM hp hc
  refine hK.out _ _ HO1.out (fun _ => ?_)
  (try simp only [Act.put, qset])
  clear hK K
  repeat (refine zAf (v := ?_) rfl ?_ ?_ ?_; rotate_left 1; rfl; (focus (intro wS hSw; go_simp; first | done | with_reducible rfl)); (try simp only [Act.put, qset]))
  refine runT rfl (fun K hK => ?_)
  go_simp
  have hb := zAA (Below.refl w3.heap.size w3) (.cells #[i64 T, i64 s, i64 so, i64 d, pt p, .slice (some ⟨w1.drew.heap.size, 0, none⟩) T T, .slice none 0 0, i64 0, i64 0] 97)
  have hE := HH.out.more (A := tObj W.heap.size w3.heap.size [i64 T, i64 s, i64 so, i64 d, pt p, .slice (some ⟨w1.drew.heap.size, 0, none⟩) T T, .slice none 0 0, i64 0, i64 0]) hb (zAM _ _ _) ⟨IsObj.made w3 [i64 T, i64 s, i64 so, i64 d, pt p, .slice (some ⟨w1.drew.heap.size, 0, none⟩) T T, .slice none 0 0, i64 0, i64 0] 97, HH.out.size⟩ (fun q hq => by cases hq; exact Nat.le_refl _)
  have HE := zIc hE
  have HS := zIc HB1.out.size
  replace HB1 := zIc (zAE HB1.out hb)
  replace HO1 := zIc (HO1.out.later hb)
  clear hb hE HH
  refine hK.out _ _ HO1.out (fun _ => ?_)
  (try simp only [Act.put, qset])
  clear hK K
  repeat (refine zAf (v := ?_) rfl ?_ ?_ ?_; rotate_left 1; rfl; (focus (intro wS hSw; go_simp; first | done | with_reducible rfl)); (try simp only [Act.put, qset]))
  refine zAP ?_
  go_wp2
  go_ret2
  exact zDL HB1.out HS.out (HE.out.rot)
end
end
section
open Go.RowKit
def Mv.w (x : Mv) (t : Int) : Int := x.who % 65536 % t
def Mv.k (x : Mv) : Int := x.kind % 8
def isStep (B : YB) (N : Nat) (Y Y' : Yd) (who : Int) : Prop := ∃ (k : Nat) (T : Wk) (i : Nat) (z : Int), (k : Int) = who ∧ Y.ts[k]? = some (some (T, i)) ∧ T.ask Y.C z ∧ Y' = Y.step (plOf B N k) k T i z
inductive YHow (B : YB) (N : Nat) (Y : Yd) : Yd → Prop
 | rest : YHow B N Y Y
 | call (w : Nat) (take : Bool) (kd e x s : Int) (hw : Y.ts[w]? = some none) (he : e = 0 ∨ e = 1) (hk : kdI take = kd) : YHow B N Y (Y.call w kd e x s (wkB B N w take e x s))
 | step (w : Nat) (T : Wk) (i : Nat) (z : Int) (hw : Y.ts[w]? = some (some (T, i))) (ha : T.ask Y.C z) : YHow B N Y (Y.step (plOf B N w) w T i z)
 | pass (n : Int) (hn : 0 < n) : YHow B N Y (Y.pass n)
structure DoIs (B : YB) (N : Nat) (x : Mv) (Y Y' : Yd) : Prop where
 mv : YMv (plOf B N) Y Y'
 how : YHow B N Y Y'
 log : Y'.L = Y.L ∨ (x.k ≠ 0 ∧ x.k ≠ 6 ∧ isStep B N Y Y' (if x.k = 7 then x.who else x.w B.t))
section
variable {W w w' : World} {l : List Thing} {B : YB} {Y : Yd} {J : Nat → Nat} {v vd : Value} {X : List Value}
theorem YStay.go {l l' : List Thing} {k : Nat} {J' : Nat → Nat} {a : Wk × Nat} {Y' : Yd} (h : YStay l l' (J k)) (hk : Y.ts[k]? = some (some a)) (ht : ∀ (q : Nat) (b : Wk × Nat), Y'.ts[q]? = some (some b) → ∃ b', Y.ts[q]? = some (some b')) : YGo Y Y' l l' J J :=
 ⟨h.1, fun j A hj hf => h.2 j A hf.1 (fun e => hf.2 k a hk e.symm) hj, fun j _ hf => ⟨hf.1, fun q b hq => by
  obtain ⟨b', hb'⟩ := ht q b hq
  exact hf.2 q b' hb'⟩⟩
theorem zGH {P : Pl} {k i : Nat} {T : Wk} {z : Int} (hk : Y.ts[k]? = some (some (T, i))) : ∀ (q : Nat) (b : Wk × Nat), (Y.step P k T i z).ts[q]? = some (some b) → ∃ b', Y.ts[q]? = some (some b') := fun q b hq => by
 have hq' : (if (T.step P Y.C Y.now z).ph = 0 then Y.ts.set k (some (T.step P Y.C Y.now z, i)) else Y.ts.set k none)[q]? = some (some b) := hq
 split at hq'
 ·rcases yset hq' with ⟨rfl, _, _⟩ | ⟨_, h⟩
  ·exact ⟨_, hk⟩
  ·exact ⟨_, h⟩
 ·rcases yset hq' with ⟨_, h, _⟩ | ⟨_, h⟩
  ·cases h
  ·exact ⟨_, h⟩
theorem zHz {l l' : List Thing} {n : Int} (hl : l'.length = l.length) (hk : ∀ j A, 4 ≤ j → l[j]? = some A → l'[j]? = some A) : YGo Y (Y.pass n) l l' J J :=
 ⟨by rw [hl]; exact Nat.le_refl _, fun j A hj hf => hk j A hf.1 hj, fun _ _ h => h⟩
theorem zFi (h : YAt W w l B Y J v vd X) (k : Int) (hk : k < 0 ∨ B.t ≤ k) :
  Calls Tryz.prog 35 #[pt B.yb, i64 k] w fun r w' => r = .returned (.bool false) ∧ w = w' := by
 have hB := zGz h k hk
 have HB := zIc hB
 clear hB h
 go_enter Tryz.func35, Tryz.ntmps35
 go_wp2_with fail
 refine HB.out.mono ?_
 rintro r w' ⟨rfl, rfl⟩
 go_wp2
 go_ret
 exact ⟨rfl, rfl⟩
theorem zFB (h : YAt W w l B Y J v vd X) (k : Nat) (hk : Y.ts[k]? = some none) :
  Calls Tryz.prog 35 #[pt B.yb, i64 k] w fun r w' => r = .returned (.bool false) ∧ w = w' := by
 have hkT : k < B.T := by have := (List.getElem?_eq_some_iff.1 hk).1; have := h.tl; omega
 have hB := zC8 h k hkT _ hk
 simp only [Option.isSome_none] at hB
 have HB := zIc hB
 clear hB h hk
 go_enter Tryz.func35, Tryz.ntmps35
 go_wp2_with fail
 refine HB.out.mono ?_
 rintro r w' ⟨rfl, rfl⟩
 go_wp2
 go_ret
 exact ⟨rfl, rfl⟩
theorem zDl {N n : Nat} (hc : YCf B N) (h : YH W w l B Y J) (ho : YOk (plOf B N) B.T n Y) (hn : n < 1000000) (who : Int) :
  Calls Tryz.prog 35 #[pt B.yb, i64 who] w fun r w' => ∃ b l' J' Y', r = .returned (.bool b) ∧ YH W w' l' B Y' J' ∧ YGo Y Y' l l' J J' ∧ ((b = false ∧ Y' = Y ∧ (∀ k : Nat, (k : Int) = who → ∀ a, Y.ts[k]? ≠ some (some a))) ∨ (b = true ∧ isStep B N Y Y' who)) := by
 obtain ⟨v, vd, X, h⟩ := h
 have hT := h.hT
 have hlen := ho.len
 by_cases hw : who < 0 ∨ B.t ≤ who
 ·refine (zFi h who hw).mono ?_
  rintro r w' ⟨rfl, rfl⟩
  exact ⟨false, l, J, Y, rfl, ⟨v, vd, X, h⟩, YGo.refl _ _ _, .inl ⟨rfl, rfl, fun k hk a ha => by have := (List.getElem?_eq_some_iff.1 ha).1; omega⟩⟩
 ·obtain ⟨k, rfl⟩ : ∃ k : Nat, who = k := ⟨who.toNat, by omega⟩
  cases hq : Y.ts[k]? with
  | none =>
   rw [List.getElem?_eq_none_iff] at hq
   omega
  | some a =>
   cases a with
   | none =>
    refine (zFB h k hq).mono ?_
    rintro r w' ⟨rfl, rfl⟩
    exact ⟨false, l, J, Y, rfl, ⟨v, vd, X, h⟩, YGo.refl _ _ _, .inl ⟨rfl, rfl, fun k' hk' a ha => by
     obtain rfl : k' = k := by omega
     rw [hq] at ha
     cases ha⟩⟩
   | some a =>
    refine (zCI h ho hn hq).mono ?_
    rintro r w' ⟨rfl, z, hz, l', hl', hs⟩
    exact ⟨true, l', J, _, rfl, hl', YStay.go (J' := J) hs hq (zGH hq), .inr ⟨rfl, k, a.1, a.2, z, rfl, hq, hz, rfl⟩⟩
theorem zDw {N n : Nat} (hc : YCf B N) (h : YH W w l B Y J) (ho : YOk (plOf B N) B.T n Y) (hn : n < 1000000) (hC : (Y.C.length : Int) = 2 * N + 2 * B.t) (k : Nat) (hk : k < B.T) (take : Bool) {kd : Int} (hkd : kdI take = kd) (e x s : Int) (he : e = 0 ∨ e = 1) (x0 : 0 ≤ x) (x1 : x ≤ 18446744073709551615) :
  Calls Tryz.prog 34 #[pt B.yb, i64 k, callV kd e x s] w fun r w' => ∃ l' J' Y', YH W w' l' B Y' J' ∧ YGo Y Y' l l' J J' ∧ YMv (plOf B N) Y Y' ∧ ((r = .returned (i64 2) ∧ Y' = Y ∧ ∃ a, Y.ts[k]? = some (some a)) ∨ (r = .returned (i64 0) ∧ Y.ts[k]? = some none ∧ Y' = Y.call k kd e x s (wkB B N k take e x s))) := by
 obtain ⟨v, vd, X, h⟩ := h
 have hT := h.hT
 have hlen := ho.len
 have hm := ho.most
 cases hq : Y.ts[k]? with
 | none =>
  rw [List.getElem?_eq_none_iff] at hq
  omega
 | some a =>
  cases a with
  | some a =>
   refine (zFA h k a hq kd e x s ⟨by cases take; exact .inl hkd.symm; exact .inr hkd.symm, he⟩).mono ?_
   rintro r w' ⟨rfl, hb⟩
   exact ⟨l, J, Y, ⟨v, vd, X, h.later hb⟩, YGo.refl _ _ _, .rest, .inl ⟨rfl, rfl, a, rfl⟩⟩
  | none =>
   refine (zGd hc h take hkd e x s he hq ho.nds (by omega)).mono ?_
   rintro r w' ⟨rfl, l', J', hl', hg⟩
   obtain ⟨m0, m1⟩ := hc.own hT hk
   obtain ⟨k1, k2⟩ := zHy (C := Y.C) (so := B.so) (d := B.d) (e := e) (x := x) (start := s) (nb := 2 * N + B.T) (h0 := 2 * N) (hw := 2 * N + k) take hc.lay hC (by omega) (by omega) (by omega) (show (0 : Int) ≤ k by omega) (by omega) rfl m0 m1 hc.o0 hc.o1 hc.d0 hc.d1 he x0 x1
   exact ⟨l', J', _, hl', hg, .call k kd e x s _ hq k1 k2 (zHr take) (by cases take <;> rfl) ⟨by cases take; exact .inl hkd.symm; exact .inr hkd.symm, he⟩, .inr ⟨rfl, rfl, rfl⟩⟩
theorem AtMv.v8 (x : Mv) : x.v = .agg #[.int .i64 x.kind, .int .i64 x.who, .bool x.take, .bool x.right, .int .u64 x.value, .int .i64 x.start, .int .i64 x.time] := rfl
end
end
section
open Go.RowKit
def hP : Pl := ⟨1, 0, 3, 2, 2⟩
def hstep (Y : Yd) : Yd := match Y.ts with
 | some (T, i) :: _ => Y.step hP 0 T i 0
 | _ => Y
def hY : Nat → Yd
 | 0 => Yd.call ⟨[0, 0, 0, 0], [], 0, 0, [none], []⟩ 0 0 0 7 0 (wk0 1 1 0 0 0 false 0 7 0 0 1)
 | q + 1 => hstep (hY q)
def hZ : Nat → Yd
 | 0 => (hY 4).call 0 1 0 0 0 (wk0 1 1 0 0 0 true 0 0 0 0 1)
 | q + 1 => hstep (hZ q)
theorem hend {e z : Int} (h : IsEnd [9] e z) : z = 0 := by
 rcases h with ⟨_, h⟩ | ⟨i, h0, h1, h2, _⟩
 ·exact absurd (by decide : live [9] 0) (h 0 (by decide))
 ·have h1' : i < 1 := h1
  omega
abbrev hB (yb tb p c : Nat) : YB := ⟨yb, tb, p, c, (1 : Nat), 1, 0, 0, 1⟩
theorem hCf (yb tb p c : Nat) : YCf (hB yb tb p c) 1 := ⟨lay11, Int.le_refl _, by show (0 : Int) ≤ 4; decide, Int.le_refl _, by show (0 : Int) ≤ 100; decide⟩
structure HdY (W w : World) (l : List Thing) (B : YB) (Y : Yd) (J : Nat → Nat) (n : Nat) : Prop where
 h : YH W w l B Y J
 ok : YOk (plOf B 1) 1 n Y
 len : Y.C.length = 4
section
variable {W w w' : World} {l : List Thing} {B : YB} {Y Y' : Yd} {J : Nat → Nat} {n yb tb p c : Nat}
theorem HdY.later (h : HdY W w l B Y J n) (e : Below w.heap.size w w') : HdY W w' l B Y J n := ⟨h.h.later e, h.ok, h.len⟩
theorem zHd {P : Pl} {k i : Nat} {T : Wk} {z : Int} : (Y.step P k T i z).C.length = Y.C.length := Wk.cells_len
theorem HdY.go (h : HdY W w l (hB yb tb p c) Y J n) (hn : n < 1000000) (ha : ∃ a, Y.ts[0]? = some (some a)) (hs : ∀ T i z, Y.ts[0]? = some (some (T, i)) → T.ask Y.C z → Y.step hP 0 T i z = Y') :
  Calls Tryz.prog 35 #[pt yb, i64 0] w fun r w' => r = .returned (.bool true) ∧ ∃ l', HdY W w' l' (hB yb tb p c) Y' J (n + 1) := by
 obtain ⟨a, ha⟩ := ha
 obtain ⟨v, vd, X, hA⟩ := h.h
 have hin := zCI hA h.ok hn ha
 refine hin.mono ?_
 rintro r w' ⟨rfl, z, hz, l', hl', _⟩
 have e : Y.step (plOf (hB yb tb p c) 1 0) 0 a.1 a.2 z = Y' := hs a.1 a.2 z ha hz
 have ho := h.ok.next (.step 0 a.1 a.2 z ha hz) hn h.h.fit
 rw [e] at hl' ho
 exact ⟨rfl, l', hl', ho, by rw [← e, zHd]; exact h.len⟩
theorem HdY.busy (h : HdY W w l (hB yb tb p c) Y J n) (q : Bool) (hq : ∃ a, Y.ts[0]? = some a ∧ a.isSome = q) :
  Calls Tryz.prog 33 #[pt yb, i64 0] w fun r w' => r = .returned (.bool q) ∧ w = w' := by
 obtain ⟨a, ha, rfl⟩ := hq
 obtain ⟨v, vd, X, hA⟩ := h.h
 exact zC8 hA 0 (by show 0 < 1; decide) a ha
theorem HdY.call (h : HdY W w l (hB yb tb p c) Y J n) (hn : n < 1000000) (hq : Y.ts[0]? = some none) (take : Bool) {kd : Int} (hkd : kdI take = kd) (x : Int) (x0 : 0 ≤ x) (x1 : x ≤ 18446744073709551615) (hs : Y.call 0 kd 0 x 0 (wk0 1 1 0 0 0 take 0 x 0 0 1) = Y') :
  Calls Tryz.prog 34 #[pt yb, i64 0, callV kd 0 x 0] w fun r w' => r = .returned (i64 0) ∧ ∃ l' J', HdY W w' l' (hB yb tb p c) Y' J' (n + 1) := by
 have hin := zDw (N := 1) (hCf yb tb p c) h.h h.ok hn (by rw [h.len]; rfl) 0 (by show 0 < 1; decide) take hkd 0 x 0 (.inl rfl) x0 x1
 refine hin.mono ?_
 rintro r w' ⟨l', J', Y1, h1, _, hm, ⟨_, _, a, h3⟩ | ⟨rfl, _, rfl⟩⟩
 ·rw [hq] at h3
  cases h3
 ·have e : Y.call 0 kd 0 x 0 (wkB (hB yb tb p c) 1 0 take 0 x 0) = Y' := hs
  have ho := h.ok.next hm hn h.h.fit
  rw [e] at h1 ho
  exact ⟨rfl, l', J', h1, ho, by rw [← e]; exact h.len⟩
end
end
section
open Go.RowKit
def PlacesPost (C : List Int) (N off : Nat) (w : World) (r : Ending) (w' : World) : Prop :=
 ∃ (u : Value) (Xs : List Int), r = .returned u ∧ w'.ownsRow w.heap.size 30 1 u N (Xs.map u64) ∧ Xs.length = N ∧ (∀ i, i < N → Xs.getD i 0 = C.getD (off + i) 0) ∧ Below w.heap.size w w'
section
variable {W w w' : World} {l : List Thing} {B : YB} {Y : Yd} {J : Nat → Nat} {v vd : Value} {X : List Value}
theorem zEB {N : Nat} (hl : Lay B.t B.s N) (hC : 2 * N ≤ Y.C.length) (h : YAt W w l B Y J v vd X) :
  Calls Tryz.prog 67 #[pt B.yb, .func (.func 68) #[cf B.t B.s B.so B.d] #[]] w (PlacesPost Y.C N (0) w) := by
 have hn1 := hl.n1
 have hn2 := hl.n2
 obtain ⟨i, hi, hz0, hz1, hz2⟩ := zAu.info
 have HI := zIc hi
 have HZ0 := zIc hz0
 have HZ1 := zIc hz1
 have HZ2 := zIc hz2
 have HY := zIc h
 have HLT := zIc h.objAt.lt
 have HC4 := zIc h.cells.c4
 obtain ⟨c0, c1, c2, c3, c4, c5, c6, c7, c8⟩ := h.cells
 clear h hi hz0 hz1 hz2
 go_enter Tryz.func67, Tryz.ntmps67
 go_wp2_with fail
 refine (zBD B.t B.s B.so B.d N _ hl).mono ?_
 rintro r w1 ⟨rfl, hb⟩
 have HB1 := zIc hb
 clear hb
 go_wp2_with (refine wpList_make_full _ rfl _ _ 70 rfl w.heap.size 30 i (.int .u64 0) 1 zAu.und HI.out HZ0.out HZ1.out .i64 .i64 _ _ N rfl rfl (by first | rfl | omega) (by first | rfl | omega) (by rw [HZ2.out]; omega) (by unfold maxLen; omega) HB1.out.size ?_; intro w2 hown hgrow)
 have hw2 := zAE HB1.out ((Below.refl _ _).grown hgrow (Nat.le_refl _) (fun k hk => by cases hk))
 rw [zBF] at hown
 have HR2 := zIc hown
 have HB2 := zIc hw2
 generalize w1.heap.size = g at HR2 ⊢
 clear hown hgrow hw2 c0 c1 c2 c3 c4 c5 c6 c7 c8 HB1
 go_loopw [6, 15] (fun s6 ix wr => ∃ (e : Nat) (Xs : List Int), e ≤ N ∧ ix = .int .i64 e ∧ Hid (wr.ownsRow w.heap.size 30 1 (.slice (some ⟨g, 0, none⟩) N N) N (Xs.map u64)) ∧ Hid (Xs.length = N ∧ ∀ j, j < e → Xs.getD j 0 = Y.C.getD (0 + j) 0) ∧ Hid (Below w.heap.size w wr)) (fun _ ix _ => N - (intOf ix).toNat)
 case atStart => exact ⟨0, _, Nat.zero_le _, rfl, HR2, ⟨List.length_replicate, fun j hj => by omega⟩, HB2⟩
 case round =>
  clear HR2 HB2
  obtain ⟨e, Xs, he, rfl, HR, HX, HB⟩ := hrel
  rcases Nat.lt_or_ge e N with heN | heN
  ·have heN' : (e : Int) < (N : Int) := by omega
   have HY1 := zIc (HY.out.later HB.out)
   have HM := zIc (show IsMem W.heap.size wr B.p B.c v Y.C Y.L from HY1.out.hold.has 0 _ HY1.out.mem)
   replace HY1 := zIc (HY1.out.later (Below.refl _ _).drew)
   replace HM := zIc (HM.out.later (Below.refl _ _).drew)
   replace HR := zIc (HR.out.drew)
   replace HB := zIc (zAE HB.out (Below.refl _ _).drew)
   go_wp2_with fail
   refine zAD ((fun w' => w'.cell? ⟨B.yb, 4, none⟩ = some (pt B.p))) ((0, true) :: (1, true) :: (2, true) :: (3, true) :: (4, true) :: (5, true) :: (6, true) :: (7, true) :: (8, false) :: (9, false) :: (10, true) :: (11, false) :: []) (by kernel_rfl) (by kernel_rfl) (by kernel_rfl) (by decide) (fun _ _ _ _ _ h => h) (HY1.out.cells.c4) ?_
   repeat (first | (refine zAC (v := ?_) rfl ?_ ?_ ?_; rotate_left 1; rfl; (focus (intro wS hSw; obtain c4 := hSw; go_simp; first | done | with_reducible rfl)); (try simp only [Act.put, qset])) | (refine zAB rfl ?_ ?_; rfl; (try simp only [Act.put, qset])))
   refine zAG rfl (fun K hK => ?_)
   go_simp
   refine (zAW _ _ _ _ _ _).mono ?_
   rintro r w3 ⟨rfl, hb⟩
   (try go_wp2_with fail)
   replace HM := zIc (HM.out.later hb)
   replace HR := zIc ((Keep.of_below (T := fun _ => False) hb).row HR.out (fun _ _ h => h))
   replace HB := zIc (zAE HB.out hb)
   clear hb
   refine hK.out _ _ (((HB.out.cell (p := ⟨B.yb, 4, none⟩) HLT.out).trans HC4.out)) (fun _ => ?_)
   (try simp only [Act.put, qset])
   clear hK K
   repeat (first | (refine zAC (v := ?_) rfl ?_ ?_ ?_; rotate_left 1; rfl; (focus (intro wS hSw; obtain c4 := hSw; go_simp; first | done | with_reducible rfl)); (try simp only [Act.put, qset])) | (refine zAB rfl ?_ ?_; rfl; (try simp only [Act.put, qset])))
   refine zAG rfl (fun K hK => ?_)
   go_simp
   go_at_call 90
   refine (zIC W.heap.size _ B.p B.c _ _ _ (e) _ HM.out (zBA (by omega))).mono ?_
   rintro r w' ⟨rfl, rfl⟩
   (try go_wp2_with fail)
   have r0 := zEg HR.out heN
   have f0 := HR.out.frozenAt e
   have hg0 := (HR.out.lt g rfl).1
   refine hK.out _ _ (((HB.out.cell (p := ⟨B.yb, 4, none⟩) HLT.out).trans HC4.out)) (fun _ => ?_)
   (try simp only [Act.put, qset])
   clear hK K
   repeat (first | (refine zAC (v := ?_) rfl ?_ ?_ ?_; rotate_left 1; rfl; (focus (intro wS hSw; obtain c4 := hSw; go_simp; first | done | with_reducible rfl)); (try simp only [Act.put, qset])) | (refine zAB rfl ?_ ?_; rfl; (try simp only [Act.put, qset])))
   refine zAG rfl (fun K hK => ?_)
   go_simp
   have HB4 := zIc (zAF HB.out (p := ⟨g, e, none⟩) hg0 (u64 (Y.C.getD (e) 0)))
   have HR4 := zIc (HR.out.stored e (u64 (Y.C.getD (e) 0))).1
   refine hK.out _ _ (((HB4.out.cell (p := ⟨B.yb, 4, none⟩) HLT.out).trans HC4.out)) (fun _ => ?_)
   (try simp only [Act.put, qset])
   clear hK K
   refine zAJ ?_
   clear r0 f0 HR HB
   go_wp2_with fail
   go_roundw
   case rel => exact ⟨e + 1, Xs.set e (Y.C.getD (e) 0), by omega, by go_num, by rw [List.map_set]; exact HR4, ⟨by rw [List.length_set]; exact HX.out.1, fun j hj => by
    rw [List.getD_eq_getElem?_getD, List.getElem?_set]
    split
    ·rename_i h
     subst h
     rw [if_pos (by have := HX.out.1; omega)]
     exact congrArg (fun q => Y.C.getD q 0) (by omega)
    ·rw [← List.getD_eq_getElem?_getD]
     exact HX.out.2 j (by omega)⟩, HB4⟩
   case measure => simp [intOf]; omega
  ·obtain rfl : N = e := by omega
   have hnn : ¬ (N : Int) < (N : Int) := by omega
   go_wp2
   go_ret
   exact ⟨_, Xs, rfl, HR.out, HX.out.1, HX.out.2, HB.out⟩
theorem zFc {N : Nat} (hl : Lay B.t B.s N) (hC : 2 * N ≤ Y.C.length) (hL : True) (h : YAt W w l B Y J v vd X) :
  Calls Tryz.prog 30 #[pt B.yb] w (PlacesPost Y.C N (0) w) := by
 have hB0 := zAA (Below.refl w.heap.size w) (.cells #[pt B.yb] 41)
 have HY := zIc (h.later hB0)
 have HO := zIc (IsObj.made w [pt B.yb] 41)
 have HB0 := zIc hB0
 clear h hB0
 go_enter Tryz.func30, Tryz.ntmps30
 go_wp2_with fail
 generalize w.alloc (.cells #[pt B.yb] 41) = w0 at HY HO HB0 ⊢
 refine (zE6 (wb := w.heap.size) (R := fun u w' => ∃ Xs : List Int, w'.ownsRow w.heap.size 30 1 u N (Xs.map u64) ∧ Xs.length = N ∧ (∀ i, i < N → Xs.getD i 0 = Y.C.getD (0 + i) 0) ∧ Below w.heap.size w w') HY.out (fun w1 hb => ?_)).mono ?_
 ·have HY1 := zIc ((HY.out.later hb).later (Below.refl _ _).drew)
  have HO1 := zIc ((HO.out.later hb).later (Below.refl _ _).drew)
  have HW1 := zIc (zAE (zAE HB0.out hb) (Below.refl _ _).drew)
  clear HY HO HB0 hb
  go_enter Tryz.func66, Tryz.ntmps66
  go_wp2_with fail
  refine zAD ((fun w' => AtY w' B vd Y.moves Y.now ∧ w'.cell? ⟨w.heap.size, 0, none⟩ = some (pt B.yb))) ((0, true) :: (1, true) :: (2, true) :: (3, true) :: (4, true) :: (5, false) :: (6, false) :: (7, true) :: []) (by kernel_rfl) (by kernel_rfl) (by kernel_rfl) (by decide) (fun _ _ _ _ _ h => h) (⟨HY1.out.cells, HO1.out.at' 0 _ rfl⟩) ?_
  repeat ((first | (refine zAC (v := ?_) rfl ?_ ?_ ?_; rotate_left 1; rfl; focus (rintro wS ⟨⟨c0, c1, c2, c3, c4, c5, c6, c7, c8⟩, q0⟩; go_simp <;> with_reducible rfl)) | (refine zAB rfl ?_ ?_; rfl)); try simp only [Act.put, qset])
  refine zAG rfl (fun K hK => ?_)
  go_simp
  refine hK.out _ _ (⟨HY1.out.cells, HO1.out.at' 0 _ rfl⟩) (fun _ => ?_)
  (try simp only [Act.put, qset])
  clear hK K
  repeat ((first | (refine zAC (v := ?_) rfl ?_ ?_ ?_; rotate_left 1; rfl; focus (rintro wS ⟨⟨c0, c1, c2, c3, c4, c5, c6, c7, c8⟩, q0⟩; go_simp <;> with_reducible rfl)) | (refine zAB rfl ?_ ?_; rfl)); try simp only [Act.put, qset])
  refine zAG rfl (fun K hK => ?_)
  go_simp
  go_at_call 67
  refine (zEB hl hC HY1.out).mono ?_
  rintro r w2 ⟨u, Xs, rfl, hr, hx, hx2, hb⟩
  (try go_wp2_with fail)
  have HR := zIc hr
  have HX := zIc hx2
  replace HY1 := zIc (HY1.out.later hb)
  replace HO1 := zIc (HO1.out.later hb)
  have HS := zIc HW1.out.size
  replace HW1 := zIc (zAE HW1.out hb)
  clear hr hx2 hb
  refine hK.out _ _ (⟨HY1.out.cells, HO1.out.at' 0 _ rfl⟩) (fun _ => ?_)
  (try simp only [Act.put, qset])
  clear hK K
  repeat ((first | (refine zAC (v := ?_) rfl ?_ ?_ ?_; rotate_left 1; rfl; focus (rintro wS ⟨⟨c0, c1, c2, c3, c4, c5, c6, c7, c8⟩, q0⟩; go_simp <;> with_reducible rfl)) | (refine zAB rfl ?_ ?_; rfl)); try simp only [Act.put, qset])
  refine zAJ ?_
  go_wp2
  go_ret
  exact ⟨_, rfl, Xs, zDI HR.out HS.out, hx, HX.out, HW1.out⟩
 ·rintro r w2 ⟨u, rfl, Xs, hR⟩
  have HR := zIc hR
  clear hR HY HO HB0
  go_wp2
  go_ret
  exact ⟨_, Xs, rfl, HR.out⟩
end
end
section
open Go.RowKit
structure YdL (W w : World) (l : List Thing) (B : YB) (N : Nat) (Y : Yd) (J : Nat → Nat) (n : Nat) : Prop where
 h : YH W w l B Y J
 ok : YOk (plOf B N) B.T n Y
 len : (Y.C.length : Int) = 2 * N + 2 * B.t
 cf : YCf B N
 hT : (B.T : Int) = B.t
section
variable {W w w' : World} {l l' : List Thing} {B : YB} {Y Y' : Yd} {J J' : Nat → Nat} {n N : Nat}
theorem YdL.later (h : YdL W w l B N Y J n) (e : Below w.heap.size w w') : YdL W w' l B N Y J n := ⟨h.h.later e, h.ok, h.len, h.cf, h.hT⟩
theorem YMv.len {pl : Nat → Pl} (h : YMv pl Y Y') : Y'.C.length = Y.C.length := by
 cases h with
 | rest => rfl
 | call => rfl
 | pass => rfl
 | step => exact Wk.cells_len
theorem YdL.next (h : YdL W w l B N Y J n) (hn : n < 1000000) (hm : YMv (plOf B N) Y Y') (hl : YH W w' l' B Y' J') : YdL W w' l' B N Y' J' (n + 1) :=
 ⟨hl, h.ok.next hm hn h.h.fit, by rw [hm.len]; exact h.len, h.cf, h.hT⟩
theorem YdL.start {s so d : Int} {T : Nat} {yb tb p c : Nat} (hl : Lay T s N) (o0 : 0 ≤ so) (o1 : so ≤ 4) (d0 : 0 ≤ d) (d1 : d ≤ 100) (h : YH W w l ⟨yb, tb, p, c, T, s, so, d, T⟩ ⟨List.replicate (2 * N + 2 * T) 0, [], 0, 0, List.replicate T none, []⟩ J) :
  YdL W w l ⟨yb, tb, p, c, T, s, so, d, T⟩ N ⟨List.replicate (2 * N + 2 * T) 0, [], 0, 0, List.replicate T none, []⟩ J 0 :=
 ⟨h, YOk.start _ T, by show ((List.replicate (2 * N + 2 * T) (0 : Int)).length : Int) = _; rw [List.length_replicate]; show ((2 * N + 2 * T : Nat) : Int) = 2 * N + 2 * (T : Int); omega, ⟨hl, o0, o1, d0, d1⟩, rfl⟩
theorem YdL.log (h : YdL W w l B N Y J n) (hn : n ≤ 1000000) : Calls Tryz.prog 27 #[pt B.yb] w (LogPost Y.L w) := by
 obtain ⟨v, vd, X, hA⟩ := h.h
 exact zHb hA (by have := h.ok.nL; have := h.ok.most; omega)
theorem YdL.deeds (h : YdL W w l B N Y J n) (hn : n ≤ 1000000) : Calls Tryz.prog 21 #[pt B.yb] w (DeedsPost Y.ds w) := by
 obtain ⟨v, vd, X, hA⟩ := h.h
 exact zFM hA (by have := h.ok.nds; have := h.ok.most; omega)
theorem YdL.words (h : YdL W w l B N Y J n) : Calls Tryz.prog 30 #[pt B.yb] w (PlacesPost Y.C N 0 w) := by
 obtain ⟨v, vd, X, hA⟩ := h.h
 exact zFc h.cf.lay (by have := h.len; have := h.cf.lay.t1; omega) trivial hA
theorem YGo.more (Y : Yd) (l : List Thing) (A : Thing) (J : Nat → Nat) : YGo Y Y l (l ++ [A]) J J :=
 ⟨by rw [List.length_append]; exact Nat.le_add_right _ _, fun j A hj _ => by rw [List.getElem?_append_left (List.getElem?_eq_some_iff.1 hj).1]; exact hj, fun _ _ h => h⟩
theorem YH.newFree (h : YH W w l B Y J) : YFree Y J l.length := by
 obtain ⟨v, vd, X, h⟩ := h
 refine ⟨(List.getElem?_eq_some_iff.1 h.deeds).1, fun k a hk => ?_⟩
 obtain ⟨y, _, _, _, d, _⟩ := h.busy k a.1 a.2 hk
 exact Nat.ne_of_lt (List.getElem?_eq_some_iff.1 d).1
theorem YdL.more (h : YdL W w l B N Y J n) {A : Thing} (e : Below w.heap.size w w') (ok : A.Ok W.heap.size) (hP : A.P w') (hF : ∀ q, A.F q → w.heap.size ≤ q) : YdL W w' (l ++ [A]) B N Y J n := ⟨h.h.more e ok hP hF, h.ok, h.len, h.cf, h.hT⟩
structure Rest (Y : Yd) (l : List Thing) (J : Nat → Nat) (j : Nat) (A : Thing) : Prop where
 at' : l[j]? = some A
 free : YFree Y J j
theorem Rest.go {j : Nat} {A : Thing} (h : Rest Y l J j A) (g : YGo Y Y' l l' J J') : Rest Y' l' J' j A := ⟨g.keep j A h.at' h.free, g.free j (List.getElem?_eq_some_iff.1 h.at').1 h.free⟩
theorem YdL.rest (h : YdL W w l B N Y J n) (A : Thing) : Rest Y (l ++ [A]) J l.length A := ⟨by rw [List.getElem?_append_right (Nat.le_refl _), Nat.sub_self]; rfl, h.h.newFree⟩
theorem YdL.has (h : YdL W w l B N Y J n) {j : Nat} {A : Thing} (hr : Rest Y l J j A) : A.P w := h.h.hold.has _ _ hr.at'
theorem YdL.busy (h : YdL W w l B N Y J n) (k : Nat) (b : Bool) (hb : ∃ q, Y.ts[k]? = some q ∧ q.isSome = b) : Calls Tryz.prog 33 #[pt B.yb, i64 k] w fun r w' => r = .returned (.bool b) ∧ w = w' := by
 obtain ⟨q, hq, rfl⟩ := hb
 obtain ⟨v, vd, X, hA⟩ := h.h
 exact zC8 hA k (by have := (List.getElem?_eq_some_iff.1 hq).1; have := h.ok.len; omega) q hq
theorem YdL.call (h : YdL W w l B N Y J n) (hn : n < 1000000) (k : Nat) (hk : k < B.T) (take : Bool) {kd : Int} (hkd : kdI take = kd) (e x s : Int) (he : e = 0 ∨ e = 1) (x0 : 0 ≤ x) (x1 : x ≤ 18446744073709551615) :
  Calls Tryz.prog 34 #[pt B.yb, i64 k, callV kd e x s] w fun r w' => ∃ l' J' Y', YdL W w' l' B N Y' J' (n + 1) ∧ YGo Y Y' l l' J J' ∧ ((r = .returned (i64 2) ∧ Y' = Y ∧ ∃ a, Y.ts[k]? = some (some a)) ∨ (r = .returned (i64 0) ∧ Y.ts[k]? = some none ∧ Y' = Y.call k kd e x s (wkB B N k take e x s))) := by
 refine (zDw h.cf h.h h.ok hn h.len k hk take hkd e x s he x0 x1).mono ?_
 rintro r w' ⟨l', J', Y', h1, h2, h3, h4⟩
 exact ⟨l', J', Y', h.next hn h3 h1, h2, h4⟩
end
def Mv.list (x : Mv) : List Value := [i64 x.kind, i64 x.who, .bool x.take, .bool x.right, u64 x.value, i64 x.start, i64 x.time]
theorem AtMv.obj {w : World} {b : Nat} {x : Mv} (h : IsObj w b x.list) : AtMv w b 0 x :=
 ⟨h.at' 0 _ rfl, h.at' 1 _ rfl, h.at' 2 _ rfl, h.at' 3 _ rfl, h.at' 4 _ rfl, h.at' 5 _ rfl, h.at' 6 _ rfl⟩
end
section
open Go.RowKit
def Bel (nb : Nat) (k : Tk) (C : List Int) (now h : Int) : Prop :=
 if k.so = 0 then h < C.getD nb 0
 else if k.so = 1 then h ≤ k.seen ∨ ∃ j : Nat, k.steps ≤ j ∧ (j : Int) < k.t ∧ h ≤ C.getD (nb + j) 0
 else if k.so = 2 then (k.steps = 0 → h < C.getD nb 0) ∧ (k.steps ≠ 0 → h < k.seen)
 else (k.steps = 0 → h < now) ∧ (k.steps ≠ 0 → h < k.seen)
structure Go1 (nb : Nat) (k : Tk) (C : List Int) (now M : Int) : Prop where
 ph : k.ph = 0
 seen : k.so ≤ 2 → k.seen ≤ M
 low : k.so = 2 → k.steps ≠ 0 → k.seen ≤ C.getD nb 0
 sw : k.so = 2 → 3 ≤ k.steps → k.seen < C.getD nb 0
 own : k.so = 1 → k.who < k.steps → C.getD (nb + k.who.toNat) 0 ≤ k.seen
 time : 3 ≤ k.so → k.steps ≠ 0 → k.seen ≤ now
def Most1 (C : List Int) (M : Int) : Prop := ∀ j, 0 ≤ C.getD j 0 ∧ C.getD j 0 ≤ M
structure Up (nb : Nat) (so who t : Int) (C C' : List Int) : Prop where
 up : ∀ j, C.getD j 0 ≤ C'.getD j 0
 other : so = 1 → ∀ j : Nat, (j : Int) < t → (j : Int) ≠ who → C'.getD (nb + j) 0 = C.getD (nb + j) 0
theorem Bel.mono {nb : Nat} {k : Tk} {C C' : List Int} {now now' h : Int} (hB : Bel nb k C now h) (hC : ∀ j, C.getD j 0 ≤ C'.getD j 0) (hn : now ≤ now') : Bel nb k C' now' h := by
 unfold Bel at hB ⊢
 have h0 := hC nb
 split
 ·rename_i h1
  rw [if_pos h1] at hB
  omega
 ·rename_i h1
  rw [if_neg h1] at hB
  split
  ·rename_i h2
   rw [if_pos h2] at hB
   rcases hB with hB | ⟨j, a, b, c⟩
   ·exact .inl hB
   ·exact .inr ⟨j, a, b, Int.le_trans c (hC _)⟩
  ·rename_i h2
   rw [if_neg h2] at hB
   split
   ·rename_i h3
    rw [if_pos h3] at hB
    exact ⟨fun h => by have := hB.1 h; omega, hB.2⟩
   ·rename_i h3
    rw [if_neg h3] at hB
    exact ⟨fun h => by have := hB.1 h; omega, hB.2⟩
theorem Go1.other {nb : Nat} {k : Tk} {C C' : List Int} {now now' M M' t who : Int} (h : Go1 nb k C now M) (hU : Up nb k.so who t C C') (hk : k.who ≠ who) (h0 : 0 ≤ k.who) (ht : k.who < t) (hn : now ≤ now') (hM : M ≤ M') : Go1 nb k C' now' M' := by
 have h1 := hU.up nb
 exact ⟨h.ph, fun h2 => by have := h.seen h2; omega, fun h2 h3 => by have := h.low h2 h3; omega, fun h2 h3 => by have := h.sw h2 h3; omega,
  fun h2 h3 => by rw [hU.other h2 k.who.toNat (by omega) (by omega)]; exact h.own h2 h3, fun h2 h3 => by have := h.time h2 h3; omega⟩
def Adv (nb : Nat) (k k' : Tk) (C C' : List Int) (now M : Int) : Prop :=
 (k'.ph = 0 ∧ Go1 nb k' C' (now + 1) (M + 1) ∧ ∀ h, Bel nb k C now h → Bel nb k' C' (now + 1) h) ∨
 (k'.ph = 1 ∧ 0 ≤ k'.lo ∧ k'.lo ≤ k'.hi ∧ k'.hi < 16777215 ∧ (∀ h, Bel nb k C now h → h < k'.lo) ∧ ∀ k0 : Tk, k0.so = k.so → k0.t = k.t → k0.steps = 0 → Bel nb k0 C' (now + 1) k'.hi)
theorem zEK {C : List Int} {i : Nat} {x : Int} (h : C.getD i 0 ≤ x) : ∀ j, C.getD j 0 ≤ (C.set i x).getD j 0 := fun j => by
 rw [zAr]
 split
 ·rename_i hh
  rw [← hh.1]
  exact h
 ·exact Int.le_refl _
end
section
open Go.RowKit
def MostN (nb : Nat) (C : List Int) (M : Int) : Prop := ∀ j, nb ≤ j → 0 ≤ C.getD j 0 ∧ C.getD j 0 ≤ M
structure UpN (nb : Nat) (so who t : Int) (C C' : List Int) : Prop where
 up : ∀ j, nb ≤ j → C.getD j 0 ≤ C'.getD j 0
 other : so = 1 → ∀ j : Nat, (j : Int) < t → (j : Int) ≠ who → C'.getD (nb + j) 0 = C.getD (nb + j) 0
theorem zA2 (nb : Nat) (so who t : Int) (C : List Int) : UpN nb so who t C C := ⟨fun _ _ => Int.le_refl _, fun _ _ _ _ => rfl⟩
theorem zEl {nb : Nat} {C : List Int} {M M' : Int} (h : MostN nb C M) (hM : M ≤ M') : MostN nb C M' := fun j hj => by have := h j hj; omega
theorem zCF {nb : Nat} {C : List Int} {i : Nat} {x M : Int} (h : MostN nb C M) (h0 : 0 ≤ x) (h1 : x ≤ M + 1) : MostN nb (C.set i x) (M + 1) := fun j hj => by
 rw [zAr]
 split
 ·exact ⟨h0, h1⟩
 ·have := h j hj
  omega
theorem Bel.upN {nb : Nat} {k : Tk} {C C' : List Int} {now now' h : Int} (hB : Bel nb k C now h) (hC : ∀ j, nb ≤ j → C.getD j 0 ≤ C'.getD j 0) (hn : now ≤ now') : Bel nb k C' now' h := by
 unfold Bel at hB ⊢
 have h0 := hC nb (Nat.le_refl _)
 split
 ·rename_i h1
  rw [if_pos h1] at hB
  omega
 ·rename_i h1
  rw [if_neg h1] at hB
  split
  ·rename_i h2
   rw [if_pos h2] at hB
   rcases hB with hB | ⟨j, a, b, c⟩
   ·exact .inl hB
   ·exact .inr ⟨j, a, b, Int.le_trans c (hC _ (by omega))⟩
  ·rename_i h2
   rw [if_neg h2] at hB
   split
   ·rename_i h3
    rw [if_pos h3] at hB
    exact ⟨fun h => by have := hB.1 h; omega, hB.2⟩
   ·rename_i h3
    rw [if_neg h3] at hB
    exact ⟨fun h => by have := hB.1 h; omega, hB.2⟩
theorem Go1.upN {nb : Nat} {k : Tk} {C C' : List Int} {now now' M M' t who : Int} (h : Go1 nb k C now M) (hU : UpN nb k.so who t C C') (hk : k.who ≠ who) (h0 : 0 ≤ k.who) (ht : k.who < t) (hn : now ≤ now') (hM : M ≤ M') : Go1 nb k C' now' M' := by
 have h1 := hU.up nb (Nat.le_refl _)
 exact ⟨h.ph, fun h2 => by have := h.seen h2; omega, fun h2 h3 => by have := h.low h2 h3; omega, fun h2 h3 => by have := h.sw h2 h3; omega,
  fun h2 h3 => by rw [hU.other h2 k.who.toNat (by omega) (by omega)]; exact h.own h2 h3, fun h2 h3 => by have := h.time h2 h3; omega⟩
theorem Go1.same {nb : Nat} {k : Tk} {C C' : List Int} {now now' M M' : Int} (h : Go1 nb k C now M) (hC : ∀ j, nb ≤ j → C'.getD j 0 = C.getD j 0) (hn : now ≤ now') (hM : M ≤ M') : Go1 nb k C' now' M' :=
 ⟨h.ph, fun h2 => by have := h.seen h2; omega, fun h2 h3 => by rw [hC nb (Nat.le_refl _)]; exact h.low h2 h3, fun h2 h3 => by rw [hC nb (Nat.le_refl _)]; exact h.sw h2 h3,
  fun h2 h3 => by rw [hC _ (by omega)]; exact h.own h2 h3, fun h2 h3 => by have := h.time h2 h3; omega⟩
def AdvN (nb : Nat) (k k' : Tk) (C C' : List Int) (now now' M : Int) : Prop :=
 (k'.ph = 0 ∧ Go1 nb k' C' now' (M + 1) ∧ ∀ h, h < 16777215 → Bel nb k C now h → Bel nb k' C' now' h) ∨
 (k'.ph = 1 ∧ 0 ≤ k'.lo ∧ k'.lo ≤ k'.hi ∧ k'.hi < 16777215 ∧ (∀ h, h < 16777215 → Bel nb k C now h → h < k'.lo) ∧ ∀ k0 : Tk, k0.so = k.so → k0.t = k.t → k0.steps = 0 → Bel nb k0 C' now' k'.hi) ∨ k'.ph = 2
theorem zEf {nb : Nat} {k : Tk} {C : List Int} {now now' M n : Int} (hk : k.Ok nb n C) (h : Go1 nb k C now M) (hM : MostN nb C M) (m0 : 0 ≤ M) (m1 : M < 1000000) (n0 : 0 ≤ now) (hn : now ≤ now') (hn' : now < 16777215 → now < now') :
  AdvN nb k (stp nb k C now).1 C (stp nb k C now).2.1 now now' M ∧ MostN nb (stp nb k C now).2.1 (M + 1) ∧ UpN nb k.so k.who k.t C (stp nb k C now).2.1 := by
 have hlen := hk.len
 have hw0 := hk.w0
 have hw1 := hk.w1
 have hs0 := hk.s0
 have ht1 := hk.lay.t1
 have he0 := hk.e0
 have he1 := hk.e1
 have hx := hM nb (Nat.le_refl _)
 have hl : low (C.getD nb 0) = C.getD nb 0 := by unfold low; omega
 have hln : 0 ≤ low now ∧ low now ≤ now ∧ low now ≤ 16777215 ∧ (now < 16777215 → low now = now) ∧ (16777215 ≤ now → low now = 16777215) := by unfold low; omega
 have hp := h.ph
 have hmu : MostN nb C (M + 1) := zEl hM (by omega)
 rcases (by have := hk.o0; have := hk.o1; omega : k.so = 0 ∨ k.so = 1 ∨ k.so = 2 ∨ (k.so = 3 ∨ k.so = 4)) with hs | hs | hs | hs
 ·have ha : add64 (C.getD nb 0) 1 = C.getD nb 0 + 1 := by unfold add64; rw [IntKind.wrap_u64]; omega
  rw [stp_c0 hp hs, hl, ha, zBq _ (by omega)]
  refine ⟨.inr (.inl ⟨rfl, hx.1, Int.le_refl _, by show C.getD nb 0 < 16777215; omega, fun g _ hg => ?_, fun k0 e0 _ _ => ?_⟩), zCF hM (by omega) (by omega), ⟨fun j _ => zEK (by omega) j, fun h => by omega⟩⟩
  ·unfold Bel at hg
   rw [if_pos hs] at hg
   exact hg
  ·unfold Bel
   rw [if_pos (by omega), zAr, if_pos ⟨rfl, by omega⟩]
   show C.getD nb 0 < C.getD nb 0 + 1
   omega
 ·have hse := h.seen (by omega)
  by_cases hlt : k.steps < k.t
  ·have hy := hM (nb + k.steps.toNat) (by omega)
   have hly : low (C.getD (nb + k.steps.toNat) 0) = C.getD (nb + k.steps.toNat) 0 := by unfold low; omega
   rw [zIX hp hs hlt, hly]
   refine ⟨.inl ⟨hp, ⟨hp, fun _ => by show max k.seen _ ≤ M + 1; omega, fun h => by have : k.so = 2 := h; omega, fun h => by have : k.so = 2 := h; omega, fun _ hw => ?_, fun h => by have : 3 ≤ k.so := h; omega⟩, fun g _ hg => ?_⟩, hmu, zA2 _ _ _ _ _⟩
   ·show C.getD (nb + k.who.toNat) 0 ≤ max k.seen (C.getD (nb + k.steps.toNat) 0)
    have hw' : k.who < k.steps + 1 := hw
    by_cases hwk : k.who < k.steps
    ·have := h.own hs hwk
     omega
    ·rw [show k.who.toNat = k.steps.toNat by omega]
     omega
   ·unfold Bel at hg ⊢
    rw [if_neg (by omega), if_pos hs] at hg
    rw [if_neg (by show ¬ k.so = 0; omega), if_pos hs]
    rcases hg with hg | ⟨j, a, b, c⟩
    ·exact .inl (by show g ≤ max k.seen _; omega)
    ·by_cases hj : (j : Int) = k.steps
     ·refine .inl ?_
      show g ≤ max k.seen (C.getD (nb + k.steps.toNat) 0)
      rw [show k.steps.toNat = j by omega]
      omega
     ·exact .inr ⟨j, by show k.steps + 1 ≤ j; omega, b, c⟩
  ·have hw := h.own hs (by omega)
   rw [zIS hp hs hlt (by omega)]
   refine ⟨.inr (.inl ⟨rfl, by show 0 ≤ k.seen + 1; omega, Int.le_refl _, by show k.seen + 1 < 16777215; omega, fun g _ hg => ?_, fun k0 e0 e1 e2 => ?_⟩), zCF hM (by omega) (by omega), ⟨fun j _ => zEK (by omega) j, fun _ j hj hne => ?_⟩⟩
   ·unfold Bel at hg
    rw [if_neg (by omega), if_pos hs] at hg
    show g < k.seen + 1
    rcases hg with hg | ⟨j, a, b, c⟩
    ·omega
    ·omega
   ·unfold Bel
    rw [if_neg (by omega), if_pos (by omega)]
    refine .inr ⟨k.who.toNat, by omega, by omega, ?_⟩
    rw [zAr, if_pos ⟨rfl, by omega⟩]
    exact Int.le_refl _
   ·rw [zAr, if_neg (by omega)]
 ·by_cases h0 : k.steps = 0
  ·have hst := zIT (nb := nb) (C := C) (now := now) hp hs h0
   rw [hl, if_neg (by omega)] at hst
   rw [hst]
   refine ⟨.inl ⟨rfl, ⟨rfl, fun _ => by show C.getD nb 0 ≤ M + 1; omega, fun _ _ => Int.le_refl _, fun _ h => by have : 3 ≤ k.steps + 1 := h; omega, fun h => by have : k.so = 1 := h; omega, fun h => by have : 3 ≤ k.so := h; omega⟩, fun g _ hg => ?_⟩, hmu, zA2 _ _ _ _ _⟩
   unfold Bel at hg ⊢
   rw [if_neg (by omega), if_neg (by omega), if_pos hs] at hg
   rw [if_neg (by show ¬ k.so = 0; omega), if_neg (by show ¬ k.so = 1; omega), if_pos hs]
   exact ⟨fun h => by have : k.steps + 1 = 0 := h; omega, fun _ => hg.1 h0⟩
  ·have hse := h.seen (by omega)
   have hlo := h.low hs h0
   have keep : ∀ g, Bel nb k C now g → Bel nb { k with steps := k.steps + 1 } C now' g := fun g hg => by
    unfold Bel at hg ⊢
    rw [if_neg (by omega), if_neg (by omega), if_pos hs] at hg
    rw [if_neg (by show ¬ k.so = 0; omega), if_neg (by show ¬ k.so = 1; omega), if_pos hs]
    exact ⟨fun h => by have : k.steps + 1 = 0 := h; omega, fun _ => hg.2 h0⟩
   have done : k.seen < C.getD nb 0 → AdvN nb k { k with steps := k.steps + 1, ph := 1, lo := k.seen, hi := C.getD nb 0 - 1 } C C now now' M := fun hlt =>
    .inr (.inl ⟨rfl, he0, by show k.seen ≤ C.getD nb 0 - 1; omega, by show C.getD nb 0 - 1 < 16777215; omega, fun g _ hg => by
     unfold Bel at hg
     rw [if_neg (by omega), if_neg (by omega), if_pos hs] at hg
     exact hg.2 h0, fun k0 e0 _ e2 => by
     unfold Bel
     rw [if_neg (by omega), if_neg (by omega), if_pos (by omega)]
     exact ⟨fun _ => by show C.getD nb 0 - 1 < _; omega, fun h => absurd e2 h⟩⟩)
   by_cases h1 : k.steps = 1
   ·by_cases hxx : low (C.getD nb 0) = k.seen
    ·rw [zHg hp hs h1 hxx]
     exact ⟨.inl ⟨hp, ⟨hp, fun _ => by show k.seen ≤ M + 1; omega, fun _ _ => hlo, fun _ h => by have : 3 ≤ k.steps + 1 := h; omega, fun h => by have : k.so = 1 := h; omega, fun h => by have : 3 ≤ k.so := h; omega⟩, fun g _ => keep g⟩, hmu, zA2 _ _ _ _ _⟩
    ·rw [zHl hp hs h1 hxx, hl, zBq _ (by omega)]
     exact ⟨done (by omega), hmu, zA2 _ _ _ _ _⟩
   ·by_cases h2 : k.steps = 2
    ·by_cases hxx : C.getD nb 0 = k.seen
     ·rw [zG0 hp hs h2 hxx, zBq _ (by omega)]
      refine ⟨.inr (.inl ⟨rfl, he0, Int.le_refl _, by show k.seen < 16777215; omega, fun g _ hg => ?_, fun k0 e0 _ e2 => ?_⟩), zCF hM (by omega) (by omega), ⟨fun j _ => zEK (by omega) j, fun h => by omega⟩⟩
      ·unfold Bel at hg
       rw [if_neg (by omega), if_neg (by omega), if_pos hs] at hg
       exact hg.2 h0
      ·unfold Bel
       rw [if_neg (by omega), if_neg (by omega), if_pos (by omega)]
       refine ⟨fun _ => ?_, fun h => absurd e2 h⟩
       rw [zAr, if_pos ⟨rfl, by omega⟩]
       show k.seen < k.seen + 1
       omega
     ·rw [zG2 hp hs h2 hxx]
      exact ⟨.inl ⟨hp, ⟨hp, fun _ => by show k.seen ≤ M + 1; omega, fun _ _ => hlo, fun _ _ => by show k.seen < C.getD nb 0; omega, fun h => by have : k.so = 1 := h; omega, fun h => by have : 3 ≤ k.so := h; omega⟩, fun g _ => keep g⟩, hmu, zA2 _ _ _ _ _⟩
    ·have hsw := h.sw hs (by omega)
     rw [zIb hp hs (by omega), hl, zBq _ (by omega)]
     exact ⟨done hsw, hmu, zA2 _ _ _ _ _⟩
 ·obtain ⟨l0, l1, l2, l3, l4⟩ := hln
  have hseen : 0 ≤ (if k.steps = 0 then low now else k.seen) ∧ (if k.steps = 0 then low now else k.seen) ≤ now := by
   split
   ·omega
   ·rename_i h0
    exact ⟨he0, h.time (by omega) h0⟩
  have hbel : ∀ g, g < 16777215 → Bel nb k C now g → g < (if k.steps = 0 then low now else k.seen) := fun g g1 hg => by
   unfold Bel at hg
   rw [if_neg (by omega), if_neg (by omega), if_neg (by omega)] at hg
   split
   ·rename_i h0
    have := hg.1 h0
    omega
   ·rename_i h0
    exact hg.2 h0
  have hend : AdvN nb k (fin { k with steps := k.steps + 1, seen := (if k.steps = 0 then low now else k.seen) } (if k.steps = 0 then low now else k.seen) (low now)) C C now now' M := by
   by_cases hf : 0 ≤ (if k.steps = 0 then low now else k.seen) ∧ (if k.steps = 0 then low now else k.seen) ≤ low now ∧ low now < 16777215
   ·rw [zBq _ hf]
    refine .inr (.inl ⟨rfl, hf.1, hf.2.1, hf.2.2, hbel, fun k0 e0 _ e2 => ?_⟩)
    have hlt : now < 16777215 := by omega
    unfold Bel
    rw [if_neg (by omega), if_neg (by omega), if_neg (by omega)]
    exact ⟨fun _ => by show low now < now'; have := hn' hlt; omega, fun h => absurd e2 h⟩
   ·rw [zHw _ hf]
    exact .inr (.inr rfl)
  by_cases hd : k.so = 3 ∨ k.so = 4 ∧ k.d < k.steps
  ·rw [stp_c3 hp hd]
   exact ⟨hend, hmu, zA2 _ _ _ _ _⟩
  ·have hs4 : k.so = 4 := by omega
   rw [stp_c4 hp hs4 (by omega)]
   refine ⟨.inl ⟨hp, ⟨hp, fun h => by have : k.so ≤ 2 := h; omega, fun h => by have : k.so = 2 := h; omega, fun h => by have : k.so = 2 := h; omega, fun h => by have : k.so = 1 := h; omega, fun _ _ => by show (if k.steps = 0 then low now else k.seen) ≤ now'; omega⟩, fun g g1 hg => ?_⟩, hmu, zA2 _ _ _ _ _⟩
   unfold Bel
   rw [if_neg (by show ¬ k.so = 0; omega), if_neg (by show ¬ k.so = 1; omega), if_neg (by show ¬ k.so = 2; omega)]
   exact ⟨fun h => by have : k.steps + 1 = 0 := h; omega, fun _ => hbel g g1 hg⟩
end
end Go.Proofs.YtebgjfhaolgcjaaGreat
