/-
  Calls that are stepped again and again: the stretches between two ends, as numbers; a step of a yard's call; rows of calls that are asked for. No condition.
-/
import Derived.Test.YtgoncakjkippkabGreatBoundYard
import Derived.Test.YtgoncakjkippkabGreatBoundHead
import Derived.Test.YtgoncakjkippkabGreatYardLoop
namespace Go.Proofs.YtgoncakjkippkabGreat
open Go.RowKit
set_option linter.unusedVariables false

def minI : Int := -9223372036854775808
/-- The last end, the greatest gap. -/
def eLast (E : List Int) : Int := (gGo (-1) minI E).1
def eMost (E : List Int) : Int := (gGo (-1) minI E).2
theorem eLast_snoc (E : List Int) (x : Int) : eLast (E ++ [x]) = x := by unfold eLast; rw [gGo_snoc]
theorem eMost_snoc (E : List Int) (x : Int) : eMost (E ++ [x]) = max (eMost E) (x - eLast E) := by unfold eMost eLast; rw [gGo_snoc]

/-- What is known behind i steps: E are the ends so far; b bounds what a call may do in a stretch. -/
structure Win (pl : Nat → Pl) (t put b : Nat) (Y : Yd) (E : List Int) (i : Nat) : Prop where
  st : ∃ s tu, Stretch pl t put Y s tu ∧ eLast E + 1 + (tot s t : Nat) = (i : Int)
  most : eMost E ≤ ((t * b + 1 : Nat) : Int)
  rng : ∀ e ∈ E, 0 ≤ e ∧ e < (i : Int)
  len : E.length ≤ i
section
variable {pl : Nat → Pl} {t n N put b i : Nat} {Y : Yd} {E : List Int}
theorem Win.start (h : ∀ (k : Nat) (a : Wk × Nat), Y.ts[k]? ≠ some (some a)) : Win pl t put b Y [] 0 :=
  ⟨⟨_, _, Stretch.none h, by rw [tot_zero (fun _ => rfl)]; rfl⟩, by show minI ≤ _; unfold minI; omega, (fun e he => by cases he), Nat.le_refl _⟩
theorem Win.call (h : Win pl t put b Y E i) {w : Nat} {kd e x s : Int} {T : Wk} (hw : Y.ts[w]? = some .none) (hT : OLeft (pl w) T Y.C put 0 0) : Win pl t put b (Y.call w kd e x s T) E i := by
  obtain ⟨s', tu, h1, h2⟩ := h.st
  exact ⟨⟨s', tu, h1.call hw hT, h2⟩, h.most, h.rng, h.len⟩
/-- A step that ends no call. -/
theorem Win.step (h : Win pl t put b Y E i) (ho : YOk pl t n Y) (hN : ∀ k, (pl k).N = N) {w : Nat} {T : Wk} {j : Nat} {z : Int} (hw : Y.ts[w]? = some (some (T, j))) (ha : T.ask Y.C z) (hf : ∀ j, 0 ≤ Y.C.getD j 0) (hp : (T.step (pl w) Y.C Y.now z).ph = 0) :
    Win pl t put b (Y.step (pl w) w T j z) E (i + 1) := by
  obtain ⟨s', tu, h1, h2⟩ := h.st
  obtain ⟨tu', h3, h4⟩ := h1.step ho hN hw ha hf hp
  exact ⟨⟨_, tu', h3, by rw [h4]; omega⟩, h.most, fun e he => by have := h.rng e he; omega, Nat.le_succ_of_le h.len⟩
/-- A step that ends one. -/
theorem Win.ended (h : Win pl t put b Y E i) (ho : YOk pl t n Y) (hN : ∀ k, (pl k).N = N) (ht : 1 ≤ t) (h1 : put ≤ b) (h2 : t * (4 * N + 10) ≤ b) {w : Nat} {T : Wk} {j : Nat} {z : Int} (hw : Y.ts[w]? = some (some (T, j))) (ha : T.ask Y.C z) (hf : ∀ j, 0 ≤ Y.C.getD j 0) :
    Win pl t put b (Y.step (pl w) w T j z) (E ++ [(i : Int)]) (i + 1) := by
  obtain ⟨s', tu, h3, h4⟩ := h.st
  have h5 := h3.short ho hN ht h1 h2
  have h6 := h.most
  refine ⟨⟨_, _, h3.ended ho hN hw ha hf, by rw [eLast_snoc, tot_zero (fun _ => rfl)]; omega⟩, by rw [eMost_snoc]; omega, fun e he => ?_, by rw [List.length_append]; exact Nat.succ_le_succ h.len⟩
  rcases List.mem_append.1 he with he | he
  · have := h.rng e he
    omega
  · cases List.mem_singleton.1 he
    omega
/-- The greatest gap is no greater. -/
theorem Win.out (h : Win pl t put b Y E i) (ho : YOk pl t n Y) (hN : ∀ k, (pl k).N = N) (ht : 1 ≤ t) (h1 : put ≤ b) (h2 : t * (4 * N + 10) ≤ b) : gapsV E i ≤ ((t * b + 1 : Nat) : Int) := by
  obtain ⟨s', tu, h3, h4⟩ := h.st
  have h5 := h3.short ho hN ht h1 h2
  have h6 := h.most
  show max (eMost E) ((i : Int) - 1 - eLast E) ≤ _
  omega
end

section
variable {W w w' : World} {l l' : List Thing} {B : YB} {Y Y' : Yd} {J J' : Nat → Nat} {n N : Nat}
/-- A step of a thread that has a call. -/
theorem YdL.step (h : YdL W w l B N Y J n) (hn : n < 1000000) (k : Nat) (T : Wk) (i : Nat) (hk : Y.ts[k]? = some (some (T, i))) :
    Calls Tryz.prog 14 #[pt B.yb, i64 k] w fun r w' => r = .returned (.bool true) ∧ ∃ l' z, T.ask Y.C z ∧ YdL W w' l' B N (Y.step (plOf B N k) k T i z) J (n + 1) ∧ YGo Y (Y.step (plOf B N k) k T i z) l l' J J := by
  obtain ⟨v, vd, X, hA⟩ := h.h
  refine (ystep_any hA h.ok hn hk).mono ?_
  rintro r w' ⟨rfl, z, hz, l', hl', hs⟩
  exact ⟨rfl, l', z, hz, h.next hn (.step k T i z hk hz) hl', YStay.go (J' := J) hs hk (step_ts hk)⟩
/-- A call of a thread that has none. -/
theorem YdL.callIdle (h : YdL W w l B N Y J n) (hn : n < 1000000) (k : Nat) (hq : Y.ts[k]? = some none) (take : Bool) {kd : Int} (hkd : kdI take = kd) (e x s : Int) (he : e = 0 ∨ e = 1) (x0 : 0 ≤ x) (x1 : x ≤ 18446744073709551615) :
    Calls Tryz.prog 12 #[pt B.yb, i64 k, callV kd e x s] w fun r w' => r = .returned (i64 0) ∧ ∃ l' J', YdL W w' l' B N (Y.call k kd e x s (wkB B N k take e x s)) J' (n + 1) ∧ YGo Y (Y.call k kd e x s (wkB B N k take e x s)) l l' J J' := by
  have hkT : k < B.T := by have := (List.getElem?_eq_some_iff.1 hq).1; have := h.ok.len; omega
  refine (h.call hn k hkT take hkd e x s he x0 x1).mono ?_
  rintro r w' ⟨l', J', Y', h1, h2, ⟨_, _, a, ha⟩ | ⟨rfl, _, rfl⟩⟩
  · rw [hq] at ha
    cases ha
  · exact ⟨rfl, l', J', h1, h2⟩
theorem YdL.busyOr (h : YdL W w l B N Y J n) {k : Nat} (hk : k < B.T) : (∃ T i, Y.ts[k]? = some (some (T, i))) ∨ Y.ts[k]? = some none := by
  cases hq : Y.ts[k]? with
  | none =>
    rw [List.getElem?_eq_none_iff] at hq
    have := h.ok.len
    omega
  | some a =>
    cases a with
    | none => exact .inr rfl
    | some a => exact .inl ⟨a.1, a.2, rfl⟩
/-- Something that lies beside a yard is turned. -/
theorem YdL.turnRest (h : YdL W w l B N Y J n) {j : Nat} {A A' : Thing} (hr : Rest Y l J j A) (hl : Hold W w' (l.set j A')) : YdL W w' (l.set j A') B N Y J n ∧ Rest Y (l.set j A') J j A' :=
  ⟨⟨h.h.other hl (fun i C hi hf => by rw [List.getElem?_set_ne (fun e => by subst e; exact hf hr.free)]; exact hi), h.ok, h.len, h.cf, h.hT⟩, List.getElem?_set_self (List.getElem?_eq_some_iff.1 hr.at').1, hr.free⟩
theorem Rest.set {A : Thing} (h : Rest Y l J n A) {j : Nat} (hj : j ≠ n) (A' : Thing) : Rest Y (l.set j A') J n A := ⟨by rw [List.getElem?_set_ne hj]; exact h.at', h.free⟩
theorem YdL.fit (h : YdL W w l B N Y J n) : ∀ j, 0 ≤ Y.C.getD j 0 := fun j => (h.h.fit j).1
/-- Behind a step the thread has its call still, or has none. -/
theorem step_self {P : Pl} {k : Nat} {T : Wk} {i : Nat} {z : Int} (hk : Y.ts[k]? = some (some (T, i))) : ((T.step P Y.C Y.now z).ph = 0 ∧ (Y.step P k T i z).ts[k]? = some (some (T.step P Y.C Y.now z, i))) ∨ (T.step P Y.C Y.now z).ph ≠ 0 ∧ (Y.step P k T i z).ts[k]? = some none := by
  have hl := (List.getElem?_eq_some_iff.1 hk).1
  by_cases hp : (T.step P Y.C Y.now z).ph = 0
  · refine .inl ⟨hp, ?_⟩
    show (if _ then _ else _ : List (Option (Wk × Nat)))[k]? = _
    rw [if_pos hp]
    exact List.getElem?_set_self hl
  · refine .inr ⟨hp, ?_⟩
    show (if _ then _ else _ : List (Option (Wk × Nat)))[k]? = _
    rw [if_neg hp]
    exact List.getElem?_set_self hl
end

/-- A call that is asked for. -/
structure Aq where
  take : Bool
  right : Bool
  value : Int
  start : Int
structure AtAq (w : World) (tb o : Nat) (x : Aq) : Prop where
  c0 : w.cell? ⟨tb, o, none⟩ = some (.bool x.take)
  c1 : w.cell? ⟨tb, o + 1, none⟩ = some (.bool x.right)
  c2 : w.cell? ⟨tb, o + 2, none⟩ = some (u64 x.value)
  c3 : w.cell? ⟨tb, o + 3, none⟩ = some (i64 x.start)
def IsAqs (w : World) (a0 : Option Addr) (len cap tb off : Nat) (X : Nat → Aq) : Prop :=
  ∀ i, i < len → a0 = some ⟨tb, off, none⟩ ∧ len ≤ cap ∧ tb < w.heap.size ∧ AtAq w tb (off + i * 4) (X i) ∧ 0 ≤ (X i).value ∧ (X i).value ≤ 18446744073709551615
theorem IsAqs.later {w w' : World} {a : Option Addr} {len cap tb off : Nat} {X : Nat → Aq} (h : IsAqs w a len cap tb off X) (e : Below w.heap.size w w') : IsAqs w' a len cap tb off X := fun i hi => by
  obtain ⟨h1, h2, h3, h4, h5⟩ := h i hi
  have k : ∀ j, w'.cell? ⟨tb, j, none⟩ = w.cell? ⟨tb, j, none⟩ := fun j => e.cell (p := ⟨tb, j, none⟩) h3
  exact ⟨h1, h2, Nat.lt_of_lt_of_le h3 e.size, ⟨(k _).trans h4.c0, (k _).trans h4.c1, (k _).trans h4.c2, (k _).trans h4.c3⟩, h5⟩
theorem rows_aqs {w : World} {a0 : Option Addr} {len cap : Nat} (h : IsRows w [.inr true, .inr true, .inl .u64, .inl .i64] a0 len cap) : ∃ b off, ∃ X : Nat → Aq, IsAqs w a0 len cap b off X := by
  obtain ⟨h1, h2, h3, h4, h5⟩ := h
  rcases Nat.eq_zero_or_pos len with h0 | hl
  · exact ⟨0, 0, fun _ => ⟨false, false, 0, 0⟩, fun i hi => by omega⟩
  obtain ⟨b, off, rfl⟩ := h4 hl
  have hx : ∀ i, ∃ x : Aq, i < len → AtAq w b (off + i * 4) x ∧ 0 ≤ x.value ∧ x.value ≤ 18446744073709551615 := by
    intro i
    by_cases hi : i < len
    · obtain ⟨cs, hf, hc⟩ := h5 b off rfl i hi
      obtain ⟨c0, l0, rfl, r0, f0⟩ := fit_cons hf
      obtain ⟨c1, l1, rfl, r1, f1⟩ := fit_cons f0
      obtain ⟨c2, l2, rfl, r2, f2⟩ := fit_cons f1
      obtain ⟨c3, l3, rfl, r3, f3⟩ := fit_cons f2
      obtain ⟨x0, rfl⟩ := r0
      obtain ⟨x1, rfl⟩ := r1
      obtain ⟨x2, rfl, g2⟩ := r2
      obtain ⟨x3, rfl, g3⟩ := r3
      exact ⟨⟨x0, x1, x2, x3⟩, fun _ => ⟨⟨hc 0 _ rfl, hc 1 _ rfl, hc 2 _ rfl, hc 3 _ rfl⟩, (bounds_u64 g2).1, (bounds_u64 g2).2⟩⟩
    · exact ⟨⟨false, false, 0, 0⟩, fun h => absurd h hi⟩
  obtain ⟨X, hX⟩ := Classical.axiomOfChoice hx
  exact ⟨b, off, X, fun i hi => ⟨rfl, h1, World.block_lt_of_cell? w _ (hX i hi).1.c0, (hX i hi).1, (hX i hi).2⟩⟩
/-- Numbers that pick threads. -/
def IsPk (w : World) (a0 : Option Addr) (len cap tb off : Nat) (X : Nat → Int) : Prop :=
  ∀ i, i < len → a0 = some ⟨tb, off, none⟩ ∧ len ≤ cap ∧ tb < w.heap.size ∧ w.cell? ⟨tb, off + i, none⟩ = some (i64 (X i))
theorem IsPk.later {w w' : World} {a : Option Addr} {len cap tb off : Nat} {X : Nat → Int} (h : IsPk w a len cap tb off X) (e : Below w.heap.size w w') : IsPk w' a len cap tb off X := fun i hi => by
  obtain ⟨h1, h2, h3, h4⟩ := h i hi
  exact ⟨h1, h2, Nat.lt_of_lt_of_le h3 e.size, (e.cell (p := ⟨tb, off + i, none⟩) h3).trans h4⟩
theorem rows_pk {w : World} {a0 : Option Addr} {len cap : Nat} (h : IsRows w [.inl .i64] a0 len cap) : ∃ b off, ∃ X : Nat → Int, IsPk w a0 len cap b off X := by
  obtain ⟨h1, h2, h3, h4, h5⟩ := h
  rcases Nat.eq_zero_or_pos len with h0 | hl
  · exact ⟨0, 0, fun _ => 0, fun i hi => by omega⟩
  obtain ⟨b, off, rfl⟩ := h4 hl
  have hx : ∀ i, ∃ x : Int, i < len → w.cell? ⟨b, off + i, none⟩ = some (i64 x) := by
    intro i
    by_cases hi : i < len
    · obtain ⟨cs, hf, hc⟩ := h5 b off rfl i hi
      obtain ⟨c0, l0, rfl, r0, f0⟩ := fit_cons hf
      obtain ⟨x0, rfl, _⟩ := r0
      have := hc 0 _ rfl
      simp only [List.length_cons, List.length_nil, Nat.zero_add, Nat.mul_one, Nat.add_zero] at this
      exact ⟨x0, fun _ => this⟩
    · exact ⟨0, fun h => absurd h hi⟩
  obtain ⟨X, hX⟩ := Classical.axiomOfChoice hx
  exact ⟨b, off, X, fun i hi => ⟨rfl, h1, World.block_lt_of_cell? w _ (hX i hi), hX i hi⟩⟩
/-- A number of 16 bits, part of so many. -/
theorem pick_thread {u : Int} {T : Nat} (u0 : 0 ≤ u) (hT : 1 ≤ T) : ∃ k : Nat, k < T ∧ u.tmod T = (k : Int) := by
  refine ⟨(u % T).toNat, ?_, ?_⟩
  · have := Int.emod_nonneg u (show (T : Int) ≠ 0 by omega)
    have := Int.emod_lt_of_pos u (show 0 < (T : Int) by omega)
    omega
  · rw [Int.tmod_eq_emod_of_nonneg u0]
    have := Int.emod_nonneg u (show (T : Int) ≠ 0 by omega)
    omega
end Go.Proofs.YtgoncakjkippkabGreat
