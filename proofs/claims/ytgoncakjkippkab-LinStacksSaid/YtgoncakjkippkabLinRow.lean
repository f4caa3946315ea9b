/-
  Rows with room at both ends, as the program keeps them: the contracts of what is done to them. No condition but that there is room.
-/
import Derived.Test.YtgoncakjkippkabLinMore
import Derived.Test.YtgoncakjkippkabRightCalls
import Derived.Test.YtgoncakjkippkabRows2
import Derived.Test.YtgoncakjkippkabRegion
import Derived.Laws.CopyOwn
namespace Go.Proofs.Ytgoncakjkippkab
open Go.RowKit
set_option linter.unusedVariables false

def rowOf (C : List Int) (f t : Nat) : List Int := (C.drop f).take (t - f)
theorem rowOf_len {C : List Int} {f t : Nat} (h2 : t ≤ C.length) : (rowOf C f t).length = t - f := by
  unfold rowOf
  rw [List.length_take, List.length_drop]
  omega
theorem rowOf_get (C : List Int) (f t i : Nat) : (rowOf C f t)[i]? = if i < t - f then C[f + i]? else none := by
  unfold rowOf
  rw [List.getElem?_take]
  split
  · rw [List.getElem?_drop]
  · rfl
theorem rowOf_at {C : List Int} {f t i : Nat} (h : i < t - f) : (rowOf C f t).getD i 0 = C.getD (f + i) 0 := by
  rw [List.getD_eq_getElem?_getD, List.getD_eq_getElem?_getD, rowOf_get, if_pos h]
theorem rowOf_nil {C : List Int} {f t : Nat} (h2 : t ≤ C.length) : rowOf C f t = [] ↔ t ≤ f := by
  rw [← List.length_eq_zero_iff, rowOf_len h2]
  omega
theorem rowOf_putL {C : List Int} {f t : Nat} (x : Int) (h0 : 0 < f) (h1 : f ≤ t) (h2 : t ≤ C.length) : rowOf (C.set (f - 1) x) (f - 1) t = x :: rowOf C f t := by
  refine List.ext_getElem? (fun i => ?_)
  rw [rowOf_get]
  cases i with
  | zero => rw [if_pos (by omega), List.getElem?_cons_zero, Nat.add_zero, List.getElem?_set_self (by omega)]
  | succ i =>
    rw [List.getElem?_cons_succ, rowOf_get]
    split
    · rw [if_pos (by omega), List.getElem?_set_ne (by omega), show f - 1 + (i + 1) = f + i by omega]
    · rw [if_neg (by omega)]
theorem rowOf_putR {C : List Int} {f t : Nat} (x : Int) (h1 : f ≤ t) (h2 : t < C.length) : rowOf (C.set t x) f (t + 1) = rowOf C f t ++ [x] := by
  refine List.ext_getElem? (fun i => ?_)
  rw [rowOf_get]
  rcases Nat.lt_trichotomy i (t - f) with hi | hi | hi
  · rw [if_pos (by omega), List.getElem?_append_left (by rw [rowOf_len (by omega)]; exact hi), rowOf_get, if_pos hi, List.getElem?_set_ne (by omega)]
  · rw [if_pos (by omega), List.getElem?_append_right (by rw [rowOf_len (by omega)]; omega), rowOf_len (by omega), show f + i = t by omega, List.getElem?_set_self h2, show i - (t - f) = 0 by omega]
    rfl
  · rw [if_neg (by omega), List.getElem?_eq_none (by rw [List.length_append, rowOf_len (by omega), List.length_singleton]; omega)]
theorem rowOf_tail {C : List Int} {f t : Nat} : rowOf C (f + 1) t = (rowOf C f t).drop 1 := by
  refine List.ext_getElem? (fun i => ?_)
  rw [rowOf_get, List.getElem?_drop, rowOf_get]
  split
  · rw [if_pos (by omega), show f + 1 + i = f + (1 + i) by omega]
  · rw [if_neg (by omega)]
theorem rowOf_init {C : List Int} {f t : Nat} (h : f < t) (h2 : t ≤ C.length) : rowOf C f (t - 1) = (rowOf C f t).take ((rowOf C f t).length - 1) := by
  refine List.ext_getElem? (fun i => ?_)
  rw [rowOf_get, List.getElem?_take, rowOf_len h2, rowOf_get]
  split
  · rw [if_pos (by omega), if_pos (by omega)]
  · rw [if_neg (by omega)]

/-- Numbers that can be read. -/
def IsU (w : World) (a : Option Addr) (R : List Int) : Prop :=
  0 < R.length → ∃ g off, a = some ⟨g, off, none⟩ ∧ g < w.heap.size ∧ ∀ i, i < R.length → w.cell? ⟨g, off + i, none⟩ = some (u64 (R.getD i 0))
theorem IsU.nil (w : World) (a : Option Addr) : IsU w a [] := fun h => absurd h (by simp)
theorem IsU.later {w w' : World} {a : Option Addr} {R : List Int} (h : IsU w a R) (e : Below w.heap.size w w') : IsU w' a R := fun hp => by
  obtain ⟨g, off, h1, h2, h3⟩ := h hp
  exact ⟨g, off, h1, Nat.lt_of_lt_of_le h2 e.size, fun i hi => (e.cell (p := ⟨g, off + i, none⟩) h2).trans (h3 i hi)⟩
theorem IsU.row {w : World} {base g cap f t : Nat} {C : List Int} (h : w.ownsRow base 28 1 (.slice (some ⟨g, 0, none⟩) C.length cap) C.length (C.map u64)) (h2 : t ≤ C.length) : IsU w (some ⟨g, f, none⟩) (rowOf C f t) := fun hp => by
  rw [rowOf_len h2] at hp ⊢
  refine ⟨g, f, rfl, (h.lt g rfl).2, fun i hi => ?_⟩
  rw [rowOf_at hi]
  exact row_at (k := .u64) h (by omega)
theorem IsU.tail {w : World} {g off : Nat} {R : List Int} (h : IsU w (some ⟨g, off, none⟩) R) : IsU w (some ⟨g, off + 1, none⟩) (R.drop 1) := fun hp => by
  rw [List.length_drop] at hp
  obtain ⟨g', off', h1, h2, h3⟩ := h (by omega)
  cases h1
  refine ⟨g, off + 1, rfl, h2, fun i hi => ?_⟩
  rw [List.length_drop] at hi
  rw [List.getD_eq_getElem?_getD, List.getElem?_drop, ← List.getD_eq_getElem?_getD, show off + 1 + i = off + (1 + i) by omega]
  exact h3 _ (by omega)
theorem IsU.init {w : World} {a : Option Addr} {R : List Int} (h : IsU w a R) (n : Nat) : IsU w a (R.take n) := fun hp => by
  rw [List.length_take] at hp
  obtain ⟨g, off, h1, h2, h3⟩ := h (by omega)
  refine ⟨g, off, h1, h2, fun i hi => ?_⟩
  rw [List.length_take] at hi
  rw [List.getD_eq_getElem?_getD, List.getElem?_take, if_pos (by omega), ← List.getD_eq_getElem?_getD]
  exact h3 _ (by omega)

/-- What stands at an end. -/
def stV (R : List Int) (e : Int) : Int := if R = [] then 0 else if e = 0 then R.getD 0 0 else R.getD (R.length - 1) 0

set_option maxHeartbeats 1000000 in
theorem standing_any (w : World) (a : Option Addr) (cap : Nat) (R : List Int) (e : Int) (h : IsU w a R) (hc : R.length ≤ cap) (hn : R.length ≤ 1000000) :
    Calls Try.prog 34 #[.slice a R.length cap, .int .i64 e] w fun r w' => r = .returned (.tuple #[.int .u64 (stV R e), .bool (decide (R ≠ []))]) ∧ Below w.heap.size w w' := by
  rcases Nat.eq_zero_or_pos R.length with h0 | hp
  · obtain rfl := List.length_eq_zero_iff.1 h0
    clear h0 h
    show Calls _ _ #[.slice a 0 cap, _] _ _
    go_enter Try.func34, Try.ntmps34
    go_wp2_with fail
    go_ret2
    exact ⟨rfl, Below.refl _ _⟩
  · obtain ⟨g, off, rfl, hg, hi⟩ := h hp
    have hne : R ≠ [] := List.length_pos_iff.1 hp
    have c0 : w.cell? ⟨g, off, none⟩ = some (u64 (R.getD 0 0)) := by have := hi 0 hp; rwa [Nat.add_zero] at this
    have c1 := hi (R.length - 1) (by omega)
    have e1 : decide (R ≠ []) = true := decide_eq_true hne
    by_cases he : e = 0
    case pos =>
      have e2 : stV R e = R.getD 0 0 := by unfold stV; rw [if_neg hne, if_pos he]
      rw [e1, e2, he]
      clear hi e1 e2 he c1 hne
      generalize R.getD 0 0 = x at c0 ⊢
      generalize R.length = ls at hp hc hn ⊢
      have p1 : ((ls : Int) == 0) = false := beq_false_of_ne (by omega)
      go_enter Try.func34, Try.ntmps34
      go_wp2_with fail
      go_ret2
      exact ⟨rfl, Below.refl _ _⟩
    case neg =>
      have e2 : stV R e = R.getD (R.length - 1) 0 := by unfold stV; rw [if_neg hne, if_neg he]
      have p2 : (e == 0) = false := beq_false_of_ne he
      rw [e1, e2]
      clear hi e1 e2 he c0 hne
      generalize R.getD (R.length - 1) 0 = x at c1 ⊢
      generalize R.length = ls at hp hc hn c1 ⊢
      have p1 : ((ls : Int) == 0) = false := beq_false_of_ne (by omega)
      go_enter Try.func34, Try.ntmps34
      go_wp2_with fail
      go_ret2
      exact ⟨rfl, Below.refl _ _⟩

theorem standing_at (w : World) (a : Option Addr) (len cap : Nat) (R : List Int) (e : Int) (h : IsU w a R) (hl : R.length = len) (hc : len ≤ cap) (hn : len ≤ 1000000) :
    Calls Try.prog 34 #[.slice a len cap, .int .i64 e] w fun r w' => r = .returned (.tuple #[.int .u64 (stV R e), .bool (decide (R ≠ []))]) ∧ Below w.heap.size w w' := by
  subst hl
  exact standing_any w a cap R e h hc hn

theorem Hold.setO {W w : World} {l : List Thing} (h : Hold W w l) (i : Nat) {b : Nat} {xs : List Value} (hi : l[i]? = some (tObj W.heap.size b xs)) (j : Nat) (u : Value) : Hold W (w.setCell ⟨b, j, none⟩ u) (l.set i (tObj W.heap.size b (xs.set j u))) :=
  h.turn i hi ((Keep.refl _ _).setCell ⟨b, j, none⟩ (by show b = b; rfl) u) (tObj_ok _ _ _) ⟨(h.has i _ hi).1.set j u, (h.has i _ hi).2⟩ (fun q hq => .inl hq)

/-- A row with room at both ends, of a call's own. -/
def RwH (W w : World) (b : Nat) (C : List Int) (f t : Nat) : Prop :=
  f ≤ t ∧ t ≤ C.length ∧ ∃ g, Hold W w [tObj W.heap.size b [.slice (some ⟨g, 0, none⟩) C.length C.length, i64 f, i64 t], tRow W.heap.size 28 1 (.slice (some ⟨g, 0, none⟩) C.length C.length) C.length (C.map u64)]
theorem RwH.later {W w w' : World} {b : Nat} {C : List Int} {f t : Nat} (h : RwH W w b C f t) (e : Below w.heap.size w w') : RwH W w' b C f t :=
  ⟨h.1, h.2.1, h.2.2.imp fun _ hh => hh.later e⟩
theorem RwH.below {W w : World} {b : Nat} {C : List Int} {f t : Nat} (h : RwH W w b C f t) : Below W.heap.size W w := by
  obtain ⟨_, _, g, hh⟩ := h
  exact hh.below
/-- What is known behind something that is done to it. -/
def RwTo (W w' : World) (b : Nat) (C : List Int) (f t : Nat) (R : List Int) : Prop :=
  ∃ C' f' t', RwH W w' b C' f' t' ∧ C'.length = C.length ∧ f ≤ f' + 1 ∧ t' ≤ t + 1 ∧ rowOf C' f' t' = R
theorem RwH.to {W w : World} {b : Nat} {C : List Int} {f t : Nat} (h : RwH W w b C f t) : RwTo W w b C f t (rowOf C f t) := ⟨C, f, t, h, rfl, by omega, by omega, rfl⟩

theorem RwTo.later {W w w' : World} {b : Nat} {C : List Int} {f t : Nat} {R : List Int} (h : RwTo W w b C f t R) (e : Below w.heap.size w w') : RwTo W w' b C f t R := by
  obtain ⟨C', f', t', h1, h2⟩ := h
  exact ⟨C', f', t', h1.later e, h2⟩
theorem RwTo.drew {W w : World} {b : Nat} {C : List Int} {f t : Nat} {R : List Int} (h : RwTo W w b C f t R) : RwTo W w.drew b C f t R := h.later (Below.refl _ _).drew

set_option maxHeartbeats 1000000 in
theorem rput_any (W w : World) (b : Nat) (C : List Int) (f t : Nat) (e x : Int) (h : RwH W w b C f t) (h1 : 1 ≤ f) (h2 : t < C.length) (hn : C.length ≤ 1000000) :
    Calls Try.prog 26 #[pt b, .int .i64 e, .int .u64 x] w fun r w' => r = .returned (.tuple #[]) ∧ RwTo W w' b C f t (if e = 0 then x :: rowOf C f t else rowOf C f t ++ [x]) := by
  obtain ⟨hft, htl, g, hH⟩ := h
  have HH := Lib.hid hH
  have hO : IsObj w b [.slice (some ⟨g, 0, none⟩) C.length C.length, i64 f, i64 t] := (hH.has 0 _ rfl).1
  have hR : w.ownsRow W.heap.size 28 1 (.slice (some ⟨g, 0, none⟩) C.length C.length) C.length (C.map u64) := hH.has 1 _ rfl
  have c0 := hO.at' 0 _ rfl
  have c2 := hO.at' 2 _ rfl
  have z0 := hO.fz 0
  have z1 := hO.fz 1
  have z2 := hO.fz 2
  have zg := hR.frozenAt
  have hne : g ≠ b := fun e => (hH.apart 0 1 _ _ rfl rfl (by decide) b rfl) (by show some g = some b; rw [e])
  have hne2 : ¬ b = g := fun e => hne e.symm
  by_cases he : e = 0
  case pos =>
    obtain ⟨f1, rfl⟩ : ∃ f1, f = f1 + 1 := ⟨f - 1, by omega⟩
    have c1 : w.cell? ⟨b, 1, none⟩ = some (.int .i64 ((f1 : Int) + 1)) := (hO.at' 1 _ rfl).trans (by simp)
    have cg : w.cell? ⟨g, f1, none⟩ = some (u64 (C.getD f1 0)) := row_at (k := .u64) hR (by omega)
    have zf := zg f1
    have q1 : (f1 : Int) < (C.length : Int) := by omega
    rw [if_pos he, he]
    clear hH hO hR zg c2 z2 he
    have HR := Lib.hid (show RwTo W ((w.setCell ⟨b, 1, none⟩ (i64 f1)).setCell ⟨g, f1, none⟩ (u64 x)) b C (f1 + 1) t (x :: rowOf C (f1 + 1) t) from by
      have k1 := HH.out.setO 0 rfl 1 (i64 f1)
      have k2 := k1.stored 1 rfl f1 (u64 x)
      refine ⟨C.set f1 x, f1, t, ⟨by omega, by rw [List.length_set]; exact htl, g, ?_⟩, List.length_set .., by omega, by omega, rowOf_putL x h1 hft htl⟩
      rw [List.length_set, List.map_set]
      exact k2)
    clear HH
    generalize C.getD f1 0 = y at cg
    generalize C.length = N at *
    go_enter Try.func26, Try.ntmps26
    go_wp2_with fail
    go_region_law (fail)
    all_goals
      go_wp2
      first | go_end0 | refine bodyPost_ret (results_none rfl _ _ _) rfl ?_
      exact ⟨rfl, HR.out.drew⟩
  case neg =>
    have p2 : (e == 0) = false := beq_false_of_ne he
    have cg : w.cell? ⟨g, t, none⟩ = some (u64 (C.getD t 0)) := row_at (k := .u64) hR (by omega)
    have zf := zg t
    have q1 : (t : Int) < (C.length : Int) := by omega
    rw [if_neg he]
    clear hH hO hR zg z1 he
    have HR := Lib.hid (show RwTo W ((w.setCell ⟨g, t, none⟩ (u64 x)).setCell ⟨b, 2, none⟩ (i64 ((t : Int) + 1))) b C f t (rowOf C f t ++ [x]) from by
      have k1 := HH.out.stored 1 rfl t (u64 x)
      have k2 := k1.setO 0 rfl 2 (i64 ((t + 1 : Nat) : Int))
      refine ⟨C.set t x, f, t + 1, ⟨by omega, by rw [List.length_set]; omega, g, ?_⟩, List.length_set .., by omega, by omega, rowOf_putR x hft h2⟩
      rw [List.length_set, List.map_set]
      exact k2)
    clear HH
    generalize C.getD t 0 = y at cg
    generalize C.length = N at *
    go_enter Try.func26, Try.ntmps26
    go_wp2_with fail
    go_region_law (fail)
    all_goals
      go_wp2
      first | go_end0 | refine bodyPost_ret (results_none rfl _ _ _) rfl ?_
      exact ⟨rfl, HR.out.drew⟩


/-- What a call of standing reads in a row. -/
def StU (w : World) (A : Option Addr) (n cap : Nat) (R : List Int) : Prop := IsU w A R ∧ R.length = n ∧ n ≤ cap ∧ n ≤ 1000000
theorem standing_st {w : World} {A : Option Addr} {n cap : Nat} {R : List Int} (e y : Int) (bb : Bool) (h : Hid (StU w A n cap R)) (hy : Hid (stV R e = y ∧ decide (R ≠ []) = bb)) :
    Calls Try.prog 34 #[.slice A n cap, .int .i64 e] w fun r w' => r = .returned (.tuple #[.int .u64 y, .bool bb]) ∧ Below w.heap.size w w' := by
  have h := h.out
  obtain ⟨h1, h2, h3, h4⟩ := h
  obtain ⟨rfl, rfl⟩ := hy.out
  exact standing_at w A n cap R e h1 h2 h3 h4

set_option maxHeartbeats 1000000 in
theorem rtake_not (w : World) (b g N f t : Nat) (R : List Int) (e v y : Int) (bb : Bool) (c0 : w.cell? ⟨b, 0, none⟩ = some (.slice (some ⟨g, 0, none⟩) N N)) (c1 : w.cell? ⟨b, 1, none⟩ = some (i64 f)) (c2 : w.cell? ⟨b, 2, none⟩ = some (i64 t))
    (q1 : (f : Int) ≤ (t : Int)) (q2 : (t : Int) ≤ (N : Int)) (hN : ¬ N = f) (hU : Hid (StU w.drew (some ⟨g, f, none⟩) (t - f) (N - f) R)) (hy : Hid (stV R e = y ∧ decide (R ≠ []) = bb)) (hb : bb = false ∨ (y == v) = false) :
    Calls Try.prog 27 #[pt b, .int .i64 e, .int .u64 v] w fun r w' => r = .returned (.bool false) ∧ Below w.heap.size w w' := by
  have HN := Lib.hid hN
  cases bb
  case false =>
    clear hb
    go_enter Try.func27, Try.ntmps27
    go_wp2_with fail
    refine wp_region_seq ((0, true) :: (1, true) :: (2, true) :: (3, true) :: (4, true) :: (5, true) :: (6, true) :: (7, true) :: (8, true) :: (9, true) :: (10, true) :: (11, true) :: (12, true) :: (13, true) :: (14, false) :: (15, true) :: (16, true) :: (17, true) :: (18, true) :: (19, true) :: []) (by kernel_rfl) (by kernel_rfl) (by kernel_rfl) (by decide) (fun _ _ _ _ _ h => h) (fun hHeld => ?_)
    repeat (first
      | (refine seq_take (v := ?_) rfl ?_ ?_ ?_; rotate_left 1; rfl; (focus (intro wS hSw; have hk := below_rule hSw; go_simp; first | done | with_reducible rfl)); (try simp only [Act.put, List.setIfInBounds_toArray, List.set_cons_zero, List.set_cons_succ]))
      | (refine seq_skip rfl ?_ ?_; rfl; (try simp only [Act.put, List.setIfInBounds_toArray, List.set_cons_zero, List.set_cons_succ]))
      | (refine seq_run rfl (fun K hK => ?_); go_simp; (try (first | (go_at_call 34; refine (standing_st e y false hU hy).mono ?_; rintro e w' ⟨rfl, hb'⟩))); (try go_wp2_with fail); refine hK.out _ _ ?_ ?_; (focus (first | exact below_step hHeld hb' | exact below_new hHeld _ | exact hHeld)); (try clear hb'); clear hHeld hK K; intro hHeld; (try simp only [Act.put, List.setIfInBounds_toArray, List.set_cons_zero, List.set_cons_succ])))
    first | refine seq_done ?_ | skip
    have HB := Lib.hid hHeld
    clear hHeld c0 c1 c2 hU
    go_wp2_with fail
    go_ret
    exact ⟨rfl, HB.out⟩
  case true =>
    replace hb := hb.resolve_left (by decide)
    go_enter Try.func27, Try.ntmps27
    go_wp2_with fail
    refine wp_region_seq ((0, true) :: (1, true) :: (2, true) :: (3, true) :: (4, true) :: (5, true) :: (6, true) :: (7, true) :: (8, true) :: (9, true) :: (10, true) :: (11, true) :: (12, true) :: (13, true) :: (14, false) :: (15, true) :: (16, true) :: (17, true) :: (18, true) :: (19, true) :: []) (by kernel_rfl) (by kernel_rfl) (by kernel_rfl) (by decide) (fun _ _ _ _ _ h => h) (fun hHeld => ?_)
    repeat (first
      | (refine seq_take (v := ?_) rfl ?_ ?_ ?_; rotate_left 1; rfl; (focus (intro wS hSw; have hk := below_rule hSw; go_simp; first | done | with_reducible rfl)); (try simp only [Act.put, List.setIfInBounds_toArray, List.set_cons_zero, List.set_cons_succ]))
      | (refine seq_skip rfl ?_ ?_; rfl; (try simp only [Act.put, List.setIfInBounds_toArray, List.set_cons_zero, List.set_cons_succ]))
      | (refine seq_run rfl (fun K hK => ?_); go_simp; (try (first | (go_at_call 34; refine (standing_st e y true hU hy).mono ?_; rintro e w' ⟨rfl, hb'⟩))); (try go_wp2_with fail); refine hK.out _ _ ?_ ?_; (focus (first | exact below_step hHeld hb' | exact below_new hHeld _ | exact hHeld)); (try clear hb'); clear hHeld hK K; intro hHeld; (try simp only [Act.put, List.setIfInBounds_toArray, List.set_cons_zero, List.set_cons_succ])))
    first | refine seq_done ?_ | skip
    have HB := Lib.hid hHeld
    clear hHeld c0 c1 c2 hU
    go_wp2_with fail
    go_ret
    exact ⟨rfl, HB.out⟩
set_option maxHeartbeats 1000000 in
theorem rtake_end (w : World) (b g f : Nat) (R : List Int) (e v y : Int) (c0 : w.cell? ⟨b, 0, none⟩ = some (.slice (some ⟨g, 0, none⟩) f f)) (c1 : w.cell? ⟨b, 1, none⟩ = some (i64 f)) (c2 : w.cell? ⟨b, 2, none⟩ = some (i64 f))
    (hU : Hid (StU w.drew (some ⟨g, 0, none⟩) (f - f) (f - f) R)) (hy : Hid (stV R e = y ∧ decide (R ≠ []) = false)) :
    Calls Try.prog 27 #[pt b, .int .i64 e, .int .u64 v] w fun r w' => r = .returned (.bool false) ∧ Below w.heap.size w w' := by
  rw [Nat.sub_self] at hU
  go_enter Try.func27, Try.ntmps27
  go_wp2_with fail
  refine wp_region_seq ((0, true) :: (1, true) :: (2, true) :: (3, true) :: (4, true) :: (5, true) :: (6, true) :: (7, true) :: (8, true) :: (9, true) :: (10, true) :: (11, true) :: (12, true) :: (13, true) :: (14, false) :: (15, true) :: (16, true) :: (17, true) :: (18, true) :: (19, true) :: []) (by kernel_rfl) (by kernel_rfl) (by kernel_rfl) (by decide) (fun _ _ _ _ _ h => h) (fun hHeld => ?_)
  repeat (first
    | (refine seq_take (v := ?_) rfl ?_ ?_ ?_; rotate_left 1; rfl; (focus (intro wS hSw; have hk := below_rule hSw; go_simp; first | done | with_reducible rfl)); (try simp only [Act.put, List.setIfInBounds_toArray, List.set_cons_zero, List.set_cons_succ]))
    | (refine seq_skip rfl ?_ ?_; rfl; (try simp only [Act.put, List.setIfInBounds_toArray, List.set_cons_zero, List.set_cons_succ]))
    | (refine seq_run rfl (fun K hK => ?_); go_simp; (try (first | (go_at_call 34; refine (standing_st e y false hU hy).mono ?_; rintro e w' ⟨rfl, hb'⟩))); (try go_wp2_with fail); refine hK.out _ _ ?_ ?_; (focus (first | exact below_step hHeld hb' | exact below_new hHeld _ | exact hHeld)); (try clear hb'); clear hHeld hK K; intro hHeld; (try simp only [Act.put, List.setIfInBounds_toArray, List.set_cons_zero, List.set_cons_succ])))
  first | refine seq_done ?_ | skip
  have HB := Lib.hid hHeld
  clear hHeld c0 c1 c2 hU
  go_wp2_with fail
  go_ret
  exact ⟨rfl, HB.out⟩

set_option maxHeartbeats 1000000 in
theorem rtake_left (w : World) (b g N f t : Nat) (R : List Int) (v : Int) (c0 : w.cell? ⟨b, 0, none⟩ = some (.slice (some ⟨g, 0, none⟩) N N)) (c1 : w.cell? ⟨b, 1, none⟩ = some (i64 f)) (c2 : w.cell? ⟨b, 2, none⟩ = some (i64 t)) (z1 : w.frozen? ⟨b, 1, none⟩ = false)
    (q1 : (f : Int) ≤ (t : Int)) (q2 : (t : Int) ≤ (N : Int)) (hN : ¬ N = f) (hn : N ≤ 1000000) (hU : Hid (StU w.drew (some ⟨g, f, none⟩) (t - f) (N - f) R)) (hy : Hid (stV R 0 = v ∧ decide (R ≠ []) = true)) :
    Calls Try.prog 27 #[pt b, .int .i64 0, .int .u64 v] w fun r w' => r = .returned (.bool true) ∧ ∃ w1, Below w.heap.size w w1 ∧ w' = w1.setCell ⟨b, 1, none⟩ (.int .i64 ((f : Int) + 1)) := by
  have hbl := World.block_lt_of_cell? w _ c0
  have hw : wrap64 ((f : Int) + 1) = (f : Int) + 1 := by unfold wrap64; omega
  have HW := Lib.hid hw
  clear hw
  go_enter Try.func27, Try.ntmps27
  go_wp2_with fail
  refine wp_region_seq ((0, true) :: (1, true) :: (2, true) :: (3, true) :: (4, true) :: (5, true) :: (6, true) :: (7, true) :: (8, true) :: (9, true) :: (10, true) :: (11, true) :: (12, true) :: (13, true) :: (14, false) :: (15, true) :: (16, true) :: (17, true) :: (18, true) :: (19, true) :: []) (by kernel_rfl) (by kernel_rfl) (by kernel_rfl) (by decide) (fun _ _ _ _ _ h => h) (fun hHeld => ?_)
  repeat (first
    | (refine seq_take (v := ?_) rfl ?_ ?_ ?_; rotate_left 1; rfl; (focus (intro wS hSw; have hk := below_rule hSw; go_simp; first | done | with_reducible rfl)); (try simp only [Act.put, List.setIfInBounds_toArray, List.set_cons_zero, List.set_cons_succ]))
    | (refine seq_skip rfl ?_ ?_; rfl; (try simp only [Act.put, List.setIfInBounds_toArray, List.set_cons_zero, List.set_cons_succ]))
    | (refine seq_run rfl (fun K hK => ?_); go_simp; (try (first | (go_at_call 34; refine (standing_st 0 v true hU hy).mono ?_; rintro e w' ⟨rfl, hb'⟩))); (try go_wp2_with fail); refine hK.out _ _ ?_ ?_; (focus (first | exact below_step hHeld hb' | exact below_new hHeld _ | exact hHeld)); (try clear hb'); clear hHeld hK K; intro hHeld; (try simp only [Act.put, List.setIfInBounds_toArray, List.set_cons_zero, List.set_cons_succ])))
  first | refine seq_done ?_ | skip
  have HB := Lib.hid hHeld
  have k1 := (hHeld.cell (p := ⟨b, 1, none⟩) hbl).trans c1
  have k3 := (hHeld.frozen (p := ⟨b, 1, none⟩) hbl).trans z1
  clear hHeld c0 c1 c2 hU z1
  go_wp2_with fail
  go_ret
  (try rw [HW.out])
  exact ⟨rfl, _, HB.out, rfl⟩

set_option maxHeartbeats 1000000 in
theorem rtake_right (w : World) (b g N f t : Nat) (R : List Int) (e v : Int) (c0 : w.cell? ⟨b, 0, none⟩ = some (.slice (some ⟨g, 0, none⟩) N N)) (c1 : w.cell? ⟨b, 1, none⟩ = some (i64 f)) (c2 : w.cell? ⟨b, 2, none⟩ = some (i64 t)) (z2 : w.frozen? ⟨b, 2, none⟩ = false)
    (q1 : (f : Int) ≤ (t : Int)) (q2 : (t : Int) ≤ (N : Int)) (hN : ¬ N = f) (he : (e == 0) = false) (t1 : Nat) (ht : t = t1 + 1) (hU : Hid (StU w.drew (some ⟨g, f, none⟩) (t - f) (N - f) R)) (hy : Hid (stV R e = v ∧ decide (R ≠ []) = true)) (hn : N ≤ 1000000) :
    Calls Try.prog 27 #[pt b, .int .i64 e, .int .u64 v] w fun r w' => r = .returned (.bool true) ∧ ∃ w1, Below w.heap.size w w1 ∧ w' = w1.setCell ⟨b, 2, none⟩ (.int .i64 (t1 : Int)) := by
  have hbl := World.block_lt_of_cell? w _ c0
  have HT := Lib.hid ht
  have hw : wrap64 (t1 : Int) = t1 := by unfold wrap64; omega
  have HW := Lib.hid hw
  clear ht hw
  go_enter Try.func27, Try.ntmps27
  go_wp2_with fail
  refine wp_region_seq ((0, true) :: (1, true) :: (2, true) :: (3, true) :: (4, true) :: (5, true) :: (6, true) :: (7, true) :: (8, true) :: (9, true) :: (10, true) :: (11, true) :: (12, true) :: (13, true) :: (14, false) :: (15, true) :: (16, true) :: (17, true) :: (18, true) :: (19, true) :: []) (by kernel_rfl) (by kernel_rfl) (by kernel_rfl) (by decide) (fun _ _ _ _ _ h => h) (fun hHeld => ?_)
  repeat (first
    | (refine seq_take (v := ?_) rfl ?_ ?_ ?_; rotate_left 1; rfl; (focus (intro wS hSw; have hk := below_rule hSw; go_simp; first | done | with_reducible rfl)); (try simp only [Act.put, List.setIfInBounds_toArray, List.set_cons_zero, List.set_cons_succ]))
    | (refine seq_skip rfl ?_ ?_; rfl; (try simp only [Act.put, List.setIfInBounds_toArray, List.set_cons_zero, List.set_cons_succ]))
    | (refine seq_run rfl (fun K hK => ?_); go_simp; (try (first | (go_at_call 34; refine (standing_st e v true hU hy).mono ?_; rintro e w' ⟨rfl, hb'⟩))); (try go_wp2_with fail); refine hK.out _ _ ?_ ?_; (focus (first | exact below_step hHeld hb' | exact below_new hHeld _ | exact hHeld)); (try clear hb'); clear hHeld hK K; intro hHeld; (try simp only [Act.put, List.setIfInBounds_toArray, List.set_cons_zero, List.set_cons_succ])))
  first | refine seq_done ?_ | skip
  have HB := Lib.hid hHeld
  have k2 := (hHeld.cell (p := ⟨b, 2, none⟩) hbl).trans c2
  replace k2 := k2.trans (show some (i64 t) = some (Value.int .i64 ((t1 : Int) + 1)) from by rw [HT.out]; rfl)
  have k3 := (hHeld.frozen (p := ⟨b, 2, none⟩) hbl).trans z2
  clear hHeld c0 c1 c2 hU z2
  go_wp2_with fail
  go_ret
  (try rw [HW.out])
  exact ⟨rfl, _, HB.out, rfl⟩

theorem rtake_any (W w : World) (b : Nat) (C : List Int) (f t : Nat) (e v : Int) (h : RwH W w b C f t) (hn : C.length ≤ 1000000) (ok : Bool) (hok : ok = true ↔ (rowOf C f t ≠ [] ∧ stV (rowOf C f t) e = v)) :
    Calls Try.prog 27 #[pt b, .int .i64 e, .int .u64 v] w fun r w' => r = .returned (.bool ok) ∧ RwTo W w' b C f t (if ok = true then (if e = 0 then (rowOf C f t).drop 1 else (rowOf C f t).take ((rowOf C f t).length - 1)) else rowOf C f t) := by
  obtain ⟨hft, htl, g, hH⟩ := h
  have hO : IsObj w b [.slice (some ⟨g, 0, none⟩) C.length C.length, i64 f, i64 t] := (hH.has 0 _ rfl).1
  have hR : w.ownsRow W.heap.size 28 1 (.slice (some ⟨g, 0, none⟩) C.length C.length) C.length (C.map u64) := hH.has 1 _ rfl
  have hU : IsU w.drew (some ⟨g, f, none⟩) (rowOf C f t) := (IsU.row hR htl).later (Below.refl _ _).drew
  have c0 := hO.at' 0 _ rfl
  have c1 := hO.at' 1 _ rfl
  have c2 := hO.at' 2 _ rfl
  have hl := rowOf_len (f := f) htl
  have hnil := rowOf_nil (f := f) htl
  have same : ∀ w', Below w.heap.size w w' → RwTo W w' b C f t (rowOf C f t) := fun w' hb' => ⟨C, f, t, ⟨hft, htl, g, hH.later hb'⟩, rfl, by omega, by omega, rfl⟩
  by_cases hr : rowOf C f t = []
  · have htf := hnil.1 hr
    obtain rfl : t = f := by omega
    obtain rfl : ok = false := by
      cases ok with
      | false => rfl
      | true => exact absurd hr (hok.1 rfl).1
    have hd : decide (rowOf C t t ≠ []) = false := decide_eq_false (fun h => h hr)
    by_cases hcf : C.length = t
    · refine (rtake_end w b g t (rowOf C t t) e v _ (by rw [hcf] at c0; exact c0) c1 c2 ?_ ⟨rfl, hd⟩).mono ?_
      · exact ⟨by rw [hr]; exact IsU.nil _ _, hl, Nat.le_refl _, by omega⟩
      · rintro r w' ⟨h1, h2⟩
        exact ⟨h1, same w' h2⟩
    · refine (rtake_not w b g C.length t t (rowOf C t t) e v _ false c0 c1 c2 (by omega) (by omega) hcf ⟨hU, hl, by omega, by omega⟩ ⟨rfl, hd⟩ (.inl rfl)).mono ?_
      rintro r w' ⟨h1, h2⟩
      exact ⟨h1, same w' h2⟩
  · have htf : f < t := by
      rcases Nat.lt_or_ge f t with h | h
      · exact h
      · exact absurd (hnil.2 h) hr
    have hd : decide (rowOf C f t ≠ []) = true := decide_eq_true hr
    have hst : StU w.drew (some ⟨g, f, none⟩) (t - f) (C.length - f) (rowOf C f t) := ⟨hU, hl, by omega, by omega⟩
    by_cases hv : stV (rowOf C f t) e = v
    · obtain rfl : ok = true := hok.2 ⟨hr, hv⟩
      rw [if_pos rfl]
      by_cases he : e = 0
      · subst he
        rw [if_pos rfl]
        refine (rtake_left w b g C.length f t _ v c0 c1 c2 (hO.fz 1) (by omega) (by omega) (by omega) hn hst ⟨hv, hd⟩).mono ?_
        rintro r w' ⟨h1, w1, hb1, rfl⟩
        exact ⟨h1, C, f + 1, t, ⟨by omega, htl, g, (hH.later hb1).setO 0 rfl 1 (i64 ((f + 1 : Nat) : Int))⟩, rfl, by omega, by omega, rowOf_tail⟩
      · rw [if_neg he]
        obtain ⟨t1, rfl⟩ : ∃ t1, t = t1 + 1 := ⟨t - 1, by omega⟩
        refine (rtake_right w b g C.length f (t1 + 1) _ e v c0 c1 c2 (hO.fz 2) (by omega) (by omega) (by omega) (beq_false_of_ne he) t1 rfl hst ⟨hv, hd⟩ hn).mono ?_
        rintro r w' ⟨h1, w1, hb1, rfl⟩
        exact ⟨h1, C, f, t1, ⟨by omega, by omega, g, (hH.later hb1).setO 0 rfl 2 (i64 (t1 : Int))⟩, rfl, by omega, by omega, rowOf_init htf htl⟩
    · obtain rfl : ok = false := by
        cases ok with
        | false => rfl
        | true => exact absurd (hok.1 rfl).2 hv
      refine (rtake_not w b g C.length f t _ e v _ true c0 c1 c2 (by omega) (by omega) (by omega) hst ⟨rfl, hd⟩ (.inr (beq_false_of_ne hv))).mono ?_
      rintro r w' ⟨h1, h2⟩
      exact ⟨h1, same w' h2⟩
end Go.Proofs.Ytgoncakjkippkab
