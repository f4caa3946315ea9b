/-
  What is known of a stamp that is being made (package tick), between two calls; and what a step of it does, as a function on plain data. No condition.
  Contracts of the functions of package tick: what each call answers, what becomes of the stamp that is being made, of the cells, and of what is noted. No condition but that numbers fit their kinds.
  Contracts of the functions of package tick, continued: by Stutter, by Swap, by the time. No condition but that numbers fit their kinds.
  Contracts of the functions of package tick, continued: by Swap, by the time; a step; how many there are at most. No condition but that numbers fit their kinds.
  Contracts of Step, Phase, Stamp, New and Most of package tick. No condition but that numbers fit their kinds.
  Contracts of what package stackyardlaw05 has beside its statements. No condition but that numbers fit their kinds.
  Contracts of package claim; what a step of it does is told as a function on plain data. No condition but that numbers fit their kinds.
-/
import Derived.Test.YtpfjommkjkbonaaGreatAMem
import Derived.IntWalk
import Derived.Test.YtpfjommkjkbonaaGreatAKit
namespace Go.Proofs.YtpfjommkjkbonaaGreat
section
open Go.RowKit
set_option linter.unusedVariables false

/-- A stamp that is being made: the layout's four numbers, whose it is, and how far it is. -/
structure Tk where
  t : Int
  s : Int
  so : Int
  d : Int
  who : Int
  steps : Int
  seen : Int
  ph : Int
  lo : Int
  hi : Int

abbrev Tk.list (k : Tk) : List Value := [i64 k.t, i64 k.s, i64 k.so, i64 k.d, i64 k.who, i64 k.steps, i64 k.seen, i64 k.ph, i64 k.lo, i64 k.hi]

/-- It lies in a block of its own. -/
structure IsTk (w : World) (b : Nat) (k : Tk) : Prop where
  c0 : w.cell? ⟨b, 0, none⟩ = some (i64 k.t)
  c1 : w.cell? ⟨b, 1, none⟩ = some (i64 k.s)
  c2 : w.cell? ⟨b, 2, none⟩ = some (i64 k.so)
  c3 : w.cell? ⟨b, 3, none⟩ = some (i64 k.d)
  c4 : w.cell? ⟨b, 4, none⟩ = some (i64 k.who)
  c5 : w.cell? ⟨b, 5, none⟩ = some (i64 k.steps)
  c6 : w.cell? ⟨b, 6, none⟩ = some (i64 k.seen)
  c7 : w.cell? ⟨b, 7, none⟩ = some (i64 k.ph)
  c8 : w.cell? ⟨b, 8, none⟩ = some (i64 k.lo)
  c9 : w.cell? ⟨b, 9, none⟩ = some (i64 k.hi)
  fz : ∀ o, w.frozen? ⟨b, o, none⟩ = false

theorem IsTk.lt {w : World} {b : Nat} {k : Tk} (h : IsTk w b k) : b < w.heap.size := World.block_lt_of_cell? w _ h.c0
theorem IsTk.keep {w w' : World} {b : Nat} {k : Tk} {T : Nat → Prop} (h : IsTk w b k) (e : Keep T w w') (hn : ¬ T b) : IsTk w' b k :=
  ⟨e.cell h.c0 hn, e.cell h.c1 hn, e.cell h.c2 hn, e.cell h.c3 hn, e.cell h.c4 hn, e.cell h.c5 hn, e.cell h.c6 hn, e.cell h.c7 hn, e.cell h.c8 hn, e.cell h.c9 hn, fun o => (e.frozen (a := ⟨b, o, none⟩) h.lt hn).trans (h.fz o)⟩
theorem IsTk.later {w w' : World} {b : Nat} {k : Tk} (h : IsTk w b k) (e : Below w.heap.size w w') : IsTk w' b k :=
  h.keep (T := fun _ => False) (Keep.of_below e) (fun h => h)
theorem IsTk.drew {w : World} {b : Nat} {k : Tk} (h : IsTk w b k) : IsTk w.drew b k := ⟨h.c0, h.c1, h.c2, h.c3, h.c4, h.c5, h.c6, h.c7, h.c8, h.c9, h.fz⟩

/-- A cell's number as stamps take it. -/
def low (x : Int) : Int := min x 16777215
/-- What comes of a stamp from lo to hi. -/
def fin (k : Tk) (lo hi : Int) : Tk := if 0 ≤ lo ∧ lo ≤ hi ∧ hi < 16777215 then { k with ph := 1, lo := lo, hi := hi } else { k with ph := 2 }

/-- A step: what it is then, the cells, and what is noted. nb is the cell of the first thread's number. -/
def stp (nb : Nat) (k : Tk) (C : List Int) (now : Int) : Tk × List Int × Option Ev :=
  if k.ph = 0 then
    if k.so = 0 then (fin { k with steps := k.steps + 1 } (low (C.getD nb 0)) (low (C.getD nb 0)), C.set nb (add64 (C.getD nb 0) 1), some ⟨k.who, 3, nb, C.getD nb 0, add64 (C.getD nb 0) 1, true⟩)
    else if k.so = 1 then
      if k.steps < k.t then ({ k with steps := k.steps + 1, seen := max k.seen (low (C.getD (nb + k.steps.toNat) 0)) }, C, some ⟨k.who, 0, (nb + k.steps.toNat : Nat), C.getD (nb + k.steps.toNat) 0, C.getD (nb + k.steps.toNat) 0, true⟩)
      else if k.seen + 1 < 16777215 then ({ k with steps := k.steps + 1, ph := 1, lo := k.seen + 1, hi := k.seen + 1 }, C.set (nb + k.who.toNat) (k.seen + 1), some ⟨k.who, 1, (nb + k.who.toNat : Nat), C.getD (nb + k.who.toNat) 0, k.seen + 1, true⟩)
      else ({ k with steps := k.steps + 1, ph := 2 }, C, none)
    else if k.so = 2 then
      if k.steps = 0 then ({ k with steps := k.steps + 1, seen := low (C.getD nb 0), ph := if low (C.getD nb 0) = 16777215 then 2 else 0 }, C, some ⟨k.who, 0, nb, C.getD nb 0, C.getD nb 0, true⟩)
      else if k.steps = 1 then (if low (C.getD nb 0) = k.seen then { k with steps := k.steps + 1 } else fin { k with steps := k.steps + 1 } k.seen (low (C.getD nb 0) - 1), C, some ⟨k.who, 0, nb, C.getD nb 0, C.getD nb 0, true⟩)
      else if k.steps = 2 then
        if C.getD nb 0 = k.seen then (fin { k with steps := k.steps + 1 } k.seen k.seen, C.set nb (k.seen + 1), some ⟨k.who, 2, nb, C.getD nb 0, k.seen + 1, true⟩)
        else ({ k with steps := k.steps + 1 }, C, some ⟨k.who, 2, nb, C.getD nb 0, C.getD nb 0, false⟩)
      else (fin { k with steps := k.steps + 1 } k.seen (low (C.getD nb 0) - 1), C, some ⟨k.who, 0, nb, C.getD nb 0, C.getD nb 0, true⟩)
    else
      if k.so = 3 ∨ k.d < k.steps then (fin { k with steps := k.steps + 1, seen := if k.steps = 0 then low now else k.seen } (if k.steps = 0 then low now else k.seen) (low now), C, none)
      else ({ k with steps := k.steps + 1, seen := if k.steps = 0 then low now else k.seen }, C, none)
  else (k, C, none)

/-- What may be in it. -/
structure Tk.Ok (k : Tk) (nb : Nat) (n : Int) (C : List Int) : Prop where
  lay : Lay k.t k.s n
  nt : (nb : Int) = 2 * n + k.t
  len : C.length = nb + k.t.toNat
  w0 : 0 ≤ k.who
  w1 : k.who < k.t
  s0 : 0 ≤ k.steps
  s1 : k.steps ≤ 1000000
  e0 : 0 ≤ k.seen
  e1 : k.seen ≤ 16777215
  o0 : 0 ≤ k.so
  o1 : k.so ≤ 4
  d0 : 0 ≤ k.d
  d1 : k.d ≤ 100
  p0 : 0 ≤ k.ph
  p1 : k.ph ≤ 2
  sw : k.so = 2 → 1 ≤ k.steps → k.ph = 0 → k.seen < 16777215



/-- What is known behind a step (of a stamp in block b, with cells at p, c, noted in v). -/
structure Stepped (base : Nat) (w w' : World) (b p c : Nat) (v v' : Value) (k' : Tk) (C' : List Int) (L' : List Ev) : Prop where
  tk : IsTk w' b k'
  mem : IsMem base w' p c v' C' L'
  apart : ¬ Foot p c v' b
  keep : Keep (fun i => i = b ∨ Foot p c v i) w w'
  moved : Moved w v v'
  size : base ≤ w'.heap.size

section
variable {base : Nat} {w w1 w2 : World} {b p c : Nat} {v v1 v2 : Value} {k k1 k2 : Tk} {C C1 C2 : List Int} {L L1 L2 : List Ev}

theorem Stepped.refl (hT : IsTk w b k) (hM : IsMem base w p c v C L) (ha : ¬ Foot p c v b) (hb : base ≤ w.heap.size) : Stepped base w w b p c v v k C L :=
  ⟨hT, hM, ha, Keep.refl _ _, moved_refl _ _, hb⟩
theorem Stepped.later (h : Stepped base w w1 b p c v v1 k C L) (e : Below w1.heap.size w1 w2) : Stepped base w w2 b p c v v1 k C L :=
  ⟨h.tk.later e, h.mem.later e, h.apart, h.keep.trans (Keep.of_below e), h.moved, Nat.le_trans h.size e.size⟩
theorem Stepped.own (h : Stepped base w w1 b p c v v1 k C L) (hT : IsTk w2 b k2) (e : Keep (· = b) w1 w2) : Stepped base w w2 b p c v v1 k2 C L :=
  ⟨hT, h.mem.keep e (fun i hi hb => h.apart (hb ▸ hi)), h.apart, h.keep.trans (e.mono fun _ h => .inl h), h.moved, Nat.le_trans h.size e.size⟩
theorem Stepped.cells (h : Stepped base w w1 b p c v v1 k C L) (t : Touched base w1 w2 p c v1 v2 C2 L2) : Stepped base w w2 b p c v v2 k C2 L2 :=
  ⟨h.tk.keep t.keep h.apart, t.mem, fun hf => (foot_new t hf).elim h.apart (fun hs => absurd h.tk.lt (by omega)),
    h.keep.then' t.keep (fun i hi => by
      rcases hi with h1 | h1 | h1
      · exact .inl (.inr (.inl h1))
      · exact .inl (.inr (.inr (.inl h1)))
      · exact (h.moved i h1).imp (fun h => .inr (.inr (.inr h))) id), h.moved.trans t.moved h.keep.size, Nat.le_trans h.size t.keep.size⟩
theorem Stepped.trans (h : Stepped base w w1 b p c v v1 k C L) (t : Stepped base w1 w2 b p c v1 v2 k2 C2 L2) : Stepped base w w2 b p c v v2 k2 C2 L2 :=
  ⟨t.tk, t.mem, t.apart, h.keep.then' t.keep (fun i hi => by
      rcases hi with h1 | h1 | h1 | h1
      · exact .inl (.inl h1)
      · exact .inl (.inr (.inl h1))
      · exact .inl (.inr (.inr (.inl h1)))
      · exact (h.moved i h1).imp (fun h => .inr (.inr (.inr h))) id), h.moved.trans t.moved h.keep.size, t.size⟩
theorem Stepped.drew (h : Stepped base w w1 b p c v v1 k C L) : Stepped base w w1.drew b p c v v1 k C L := h.later (Below.refl _ _).drew
end

/-- What a step of a stamp leaves. -/
def TickPost (base : Nat) (w : World) (b p c : Nat) (v : Value) (k' : Tk) (C' : List Int) (L' : List Ev) (e0 : Ending) (e : Ending) (w' : World) : Prop :=
  e = e0 ∧ ∃ v', Stepped base w w' b p c v v' k' C' L'
end

section
open Go.RowKit
set_option linter.unusedVariables false

theorem low_range (x : Int) (h0 : 0 ≤ x) : 0 ≤ low x ∧ low x ≤ 16777215 := by unfold low; omega



theorem ret_i64' {a b : Int} (h : a = b) : Ending.returned (i64 a) = .returned (i64 b) := by rw [h]

set_option maxHeartbeats 1000000 in
theorem bounded_any (x : Int) (w : World) (h0 : 0 ≤ x) (h1 : x ≤ 18446744073709551615) :
    Calls Tryz.prog 116 #[u64 x] w fun r w' => r = .returned (i64 (low x)) ∧ w = w' := by
  by_cases hx : x ≤ 16777215
  · have e : low x = x := by unfold low; omega
    have E := Lib.hid e
    clear e
    go_enter Tryz.func116, Tryz.ntmps116
    go_wp2
    go_ret
    exact ⟨ret_i64' (by rw [E.out]), rfl⟩
  · have e : low x = 16777215 := by unfold low; omega
    have E := Lib.hid e
    clear e
    go_enter Tryz.func116, Tryz.ntmps116
    go_wp2
    go_ret
    exact ⟨ret_i64' (by rw [E.out]), rfl⟩

theorem setTk {w : World} {b : Nat} {k k' : Tk} (h : IsTk w b k) (i : Nat) (u : Value) (hk : (k.list.set i u) = k'.list) : IsTk (w.setCell ⟨b, i, none⟩ u) b k' := by
  have hc : ∀ j x, k.list[j]? = some x → w.cell? ⟨b, j, none⟩ = some x := by
    intro j x hj
    obtain ⟨c0, c1, c2, c3, c4, c5, c6, c7, c8, c9, _⟩ := h
    rcases j with _ | _ | _ | _ | _ | _ | _ | _ | _ | _ | j
    all_goals first | (simp at hj; subst hj; assumption) | (simp at hj)
  have hn : ∀ j x, k'.list[j]? = some x → (w.setCell ⟨b, i, none⟩ u).cell? ⟨b, j, none⟩ = some x := by
    intro j x hj
    rw [← hk, List.getElem?_set] at hj
    by_cases hij : i = j
    · subst hij
      simp only [if_true] at hj
      split at hj
      · rename_i hl
        cases hj
        exact World.cell?_setCell_same _ _ _ (hc i _ (List.getElem?_eq_getElem hl))
      · cases hj
    · rw [if_neg hij] at hj
      rw [World.cell?_setCell_other _ _ _ _ (fun e => hij (by injection e))]
      exact hc j x hj
  exact ⟨hn 0 _ rfl, hn 1 _ rfl, hn 2 _ rfl, hn 3 _ rfl, hn 4 _ rfl, hn 5 _ rfl, hn 6 _ rfl, hn 7 _ rfl, hn 8 _ rfl, hn 9 _ rfl, fun o => by rw [World.frozen?_setCell]; exact h.fz o⟩

/-- A stamp's two numbers in a block. -/
def At2 (b : Nat) (x y : Int) (w : World) : Prop := w.cell? ⟨b, 0, none⟩ = some (i64 x) ∧ w.cell? ⟨b, 1, none⟩ = some (i64 y)

theorem Keep.own {b : Nat} {w w' : World} (h : Keep (· = b) w w') (o : Nat) (u : Value) : Keep (· = b) w (w'.setCell ⟨b, o, none⟩ u) := h.setCell _ rfl u

theorem At2.set {b a x y : _} {w : World} (h : At2 b x y w) (o : Nat) (u : Value) (hne : a ≠ b) : At2 b x y (w.setCell ⟨a, o, none⟩ u) :=
  ⟨by rw [World.cell?_setCell_other _ _ _ _ (fun e => hne (by injection e))]; exact h.1, by rw [World.cell?_setCell_other _ _ _ _ (fun e => hne (by injection e))]; exact h.2⟩

set_option maxHeartbeats 2000000 in
theorem finish_yes (w : World) (b : Nat) (k : Tk) (x y : Int) (hT : IsTk w b k) (h : 0 ≤ x ∧ x ≤ y ∧ y < 16777215) :
    Calls Tryz.prog 119 #[pt b, i64 x, i64 y] w fun r w' => r = .returned (.bool true) ∧ IsTk w' b { k with ph := 1, lo := x, hi := y } ∧ Keep (· = b) w w' := by
  have hr : rightB x y = true := by simp [rightB, h]
  have hlt := hT.lt
  have hR := fun W => right_any x y W
  rw [hr] at hR
  have HR := Lib.hid hR
  have HT := Lib.hid hT
  clear hR hr hT h
  go_enter Tryz.func119, Tryz.ntmps119
  go_wp2_with fail
  refine (HR.out _).mono ?_
  rintro r w1 ⟨rfl, hb1⟩
  have hA : At2 w.heap.size x y w1 := ⟨by rw [hb1.cell (p := ⟨w.heap.size, 0, none⟩) (by simp)]; exact World.cell?_alloc_new w _ _ 0, by rw [hb1.cell (p := ⟨w.heap.size, 1, none⟩) (by simp)]; exact World.cell?_alloc_new w _ _ 1⟩
  have hT1 := (HT.out.later (below_new (Below.refl _ _) (.cells #[.int .i64 x, .int .i64 y] 72))).later hb1
  have hB1 : Below w.heap.size w w1 := below_step (below_new (Below.refl _ _) _) hb1
  have HB1 := Lib.hid hB1
  have HA := Lib.hid hA
  clear hA hB1 hb1
  go_wp2_with fail
  refine wp_region_seqS ((At2 w.heap.size x y)) ((0, true) :: (1, true) :: (2, true) :: (3, true) :: (4, true) :: (5, false) :: (6, true) :: (7, true) :: (8, false) :: []) (by kernel_rfl) (by kernel_rfl) (by kernel_rfl) (by decide) (fun _ _ _ _ _ h => h) (HA.out) ?_
  repeat (first | (refine seq_take (v := ?_) rfl ?_ ?_ ?_; rotate_left 1; rfl; (focus (intro wS hSw; obtain ⟨s0, s1⟩ := hSw; go_simp; first | done | with_reducible rfl)); (try simp only [Act.put, List.setIfInBounds_toArray, List.set_cons_zero, List.set_cons_succ])) | (refine seq_skip rfl ?_ ?_; rfl; (try simp only [Act.put, List.setIfInBounds_toArray, List.set_cons_zero, List.set_cons_succ])))
  obtain ⟨c0, c1, c2, c3, c4, c5, c6, c7, c8, c9, fz⟩ := id hT1
  have f7 := fz 7
  have f8 := fz 8
  have f9 := fz 9
  clear fz
  refine seq_run rfl (fun K hK => ?_)
  go_simp
  have hne : b ≠ w.heap.size := by omega
  have hA2 := (HA.out.set 7 (.int .i64 1) hne)
  have HA2 := Lib.hid hA2
  clear hA2
  refine hK.out _ _ (HA2.out) (fun _ => ?_)
  (try simp only [Act.put, List.setIfInBounds_toArray, List.set_cons_zero, List.set_cons_succ])
  clear hK K
  repeat (first | (refine seq_take (v := ?_) rfl ?_ ?_ ?_; rotate_left 1; rfl; (focus (intro wS hSw; obtain ⟨s0, s1⟩ := hSw; go_simp; first | done | with_reducible rfl)); (try simp only [Act.put, List.setIfInBounds_toArray, List.set_cons_zero, List.set_cons_succ])) | (refine seq_skip rfl ?_ ?_; rfl; (try simp only [Act.put, List.setIfInBounds_toArray, List.set_cons_zero, List.set_cons_succ])))
  refine seq_run rfl (fun K hK => ?_)
  go_simp
  have hA3 := (HA2.out.set 8 (.int .i64 x) hne).set 9 (.int .i64 y) hne
  have HA3 := Lib.hid hA3
  clear hA3
  refine hK.out _ _ (HA3.out) (fun _ => ?_)
  (try simp only [Act.put, List.setIfInBounds_toArray, List.set_cons_zero, List.set_cons_succ])
  clear hK K
  refine seq_done ?_
  go_wp2
  go_ret
  have hT2 := setTk hT1 (k' := { k with ph := 1 }) 7 (.int .i64 1) rfl
  have hT3 := setTk hT2 (k' := { k with ph := 1, lo := x }) 8 (.int .i64 x) rfl
  have hT4 := setTk hT3 (k' := { k with ph := 1, lo := x, hi := y }) 9 (.int .i64 y) rfl
  exact ⟨rfl, hT4.drew, ((((Keep.of_below HB1.out).own 7 _).own 8 _).own 9 _).drew⟩

set_option maxHeartbeats 2000000 in
theorem finish_no (w : World) (b : Nat) (k : Tk) (x y : Int) (hT : IsTk w b k) (h : ¬ (0 ≤ x ∧ x ≤ y ∧ y < 16777215)) :
    Calls Tryz.prog 119 #[pt b, i64 x, i64 y] w fun r w' => r = .returned (.bool false) ∧ IsTk w' b { k with ph := 2 } ∧ Keep (· = b) w w' := by
  have hr : rightB x y = false := by simp only [rightB, decide_eq_false_iff_not]; exact h
  have hR := fun W => right_any x y W
  rw [hr] at hR
  have HR := Lib.hid hR
  have HT := Lib.hid hT
  clear hR hr hT h
  go_enter Tryz.func119, Tryz.ntmps119
  go_wp2_with fail
  refine (HR.out _).mono ?_
  rintro r w1 ⟨rfl, hb1⟩
  have hT1 := (HT.out.later (below_new (Below.refl _ _) (.cells #[.int .i64 x, .int .i64 y] 72))).later hb1
  have hB1 : Below w.heap.size w w1 := below_step (below_new (Below.refl _ _) _) hb1
  have HB1 := Lib.hid hB1
  clear hB1 hb1
  have c7 := hT1.c7
  have f7 := hT1.fz 7
  have HT1 := Lib.hid hT1
  clear hT1
  go_wp2
  go_ret
  exact ⟨rfl, setTk HT1.out (k' := { k with ph := 2 }) 7 (.int .i64 2) rfl, (Keep.of_below HB1.out).own 7 _⟩

theorem fin_yes (k : Tk) {x y : Int} (h : 0 ≤ x ∧ x ≤ y ∧ y < 16777215) : fin k x y = { k with ph := 1, lo := x, hi := y } := if_pos h
theorem fin_no (k : Tk) {x y : Int} (h : ¬ (0 ≤ x ∧ x ≤ y ∧ y < 16777215)) : fin k x y = { k with ph := 2 } := if_neg h

theorem finish_any (w : World) (b : Nat) (k : Tk) (x y : Int) (hT : IsTk w b k) :
    Calls Tryz.prog 119 #[pt b, i64 x, i64 y] w fun r w' => (∃ g, r = .returned (.bool g)) ∧ IsTk w' b (fin k x y) ∧ Keep (· = b) w w' := by
  by_cases h : 0 ≤ x ∧ x ≤ y ∧ y < 16777215
  · rw [fin_yes k h]
    exact (finish_yes w b k x y hT h).mono fun r w' ⟨h1, h2⟩ => ⟨⟨_, h1⟩, h2⟩
  · rw [fin_no k h]
    exact (finish_no w b k x y hT h).mono fun r w' ⟨h1, h2⟩ => ⟨⟨_, h1⟩, h2⟩

theorem cnum_at (t s so d n : Int) (nb j : Nat) (w : World) (h : Lay t s n) (hnb : (nb : Int) = 2 * n + t) (hj : (j : Int) ≤ t) :
    Calls Tryz.prog 118 #[cf t s so d, i64 j] w fun r w' => r = .returned (i64 (nb + j : Nat)) ∧ Below w.heap.size w w' := by
  have := cnumber_any t s so d n j w h (by omega) hj
  rw [show (2 * n + t + (j : Int)) = ((nb + j : Nat) : Int) by omega] at this
  exact this
theorem cnum_0 (t s so d n : Int) (nb : Nat) (w : World) (h : Lay t s n) (hnb : (nb : Int) = 2 * n + t) :
    Calls Tryz.prog 118 #[cf t s so d, i64 0] w fun r w' => r = .returned (i64 nb) ∧ Below w.heap.size w w' := by
  have := cnumber_any t s so d n 0 w h (by omega) (by have := h.t1; omega)
  rw [show (2 * n + t + (0 : Int)) = (nb : Int) by omega] at this
  exact this

section
variable (base : Nat) (w : World) (b p c : Nat) (v : Value) (C : List Int) (L : List Ev) (k : Tk) (nb : Nat) (n : Int)

set_option maxHeartbeats 2000000 in
theorem tload_any (j : Nat) (x : Int) (hT : IsTk w b k) (hM : IsMem base w p c v C L) (ha : ¬ Foot p c v b) (hl : Lay k.t k.s n) (hnb : (nb : Int) = 2 * n + k.t) (hj : (j : Int) ≤ k.t) (hx : C[nb + j]? = some x) (hb : base ≤ w.heap.size) (hL : L.length < 1000000000) :
    Calls Tryz.prog 120 #[pt b, pt p, i64 j] w (TickPost base w b p c v k C (L ++ [⟨k.who, 0, (nb + j : Nat), x, x, true⟩]) (.returned (i64 (low x)))) := by
  have HS := Lib.hid (Stepped.refl hT hM ha hb)
  have HX := Lib.hid hx
  have Hnb := Lib.hid hnb
  have hn := hM.numAt hx
  clear hM ha hx hnb
  go_enter Tryz.func120, Tryz.ntmps120
  go_wp2_with fail
  refine wp_region_seqS ((fun w' => IsTk w' b k)) ((0, true) :: (1, true) :: (2, true) :: (3, true) :: (4, true) :: (5, true) :: (6, true) :: (7, true) :: (8, true) :: (9, true) :: (10, false) :: (11, false) :: (12, false) :: (13, true) :: []) (by kernel_rfl) (by kernel_rfl) (by kernel_rfl) (by decide) (fun _ _ _ _ _ h => h) (hT.drew) ?_
  clear hT
  repeat (first | (refine seq_take (v := ?_) rfl ?_ ?_ ?_; rotate_left 1; rfl; (focus (intro wS hSw; obtain ⟨s0, s1, s2, s3, s4, s5, s6, s7, s8, s9, sf⟩ := hSw; go_simp; first | done | with_reducible rfl)); (try simp only [Act.put, List.setIfInBounds_toArray, List.set_cons_zero, List.set_cons_succ])) | (refine seq_skip rfl ?_ ?_; rfl; (try simp only [Act.put, List.setIfInBounds_toArray, List.set_cons_zero, List.set_cons_succ])))
  refine seq_run rfl (fun K hK => ?_)
  go_simp
  go_at_call 118
  refine (cnum_at _ _ _ _ n nb j _ hl Hnb.out hj).mono ?_
  rintro r w1 ⟨rfl, hb1⟩
  (try go_wp2_with fail)
  replace HS := Lib.hid (HS.out.drew.later hb1)
  clear hb1
  refine hK.out _ _ (HS.out.tk) (fun _ => ?_)
  (try simp only [Act.put, List.setIfInBounds_toArray, List.set_cons_zero, List.set_cons_succ])
  clear hK K
  repeat (first | (refine seq_take (v := ?_) rfl ?_ ?_ ?_; rotate_left 1; rfl; (focus (intro wS hSw; obtain ⟨s0, s1, s2, s3, s4, s5, s6, s7, s8, s9, sf⟩ := hSw; go_simp; first | done | with_reducible rfl)); (try simp only [Act.put, List.setIfInBounds_toArray, List.set_cons_zero, List.set_cons_succ])) | (refine seq_skip rfl ?_ ?_; rfl; (try simp only [Act.put, List.setIfInBounds_toArray, List.set_cons_zero, List.set_cons_succ])))
  refine seq_run rfl (fun K hK => ?_)
  go_simp
  go_at_call 113
  refine (load_in base _ p c _ _ _ k.who (nb + j) x HS.out.mem HX.out HS.out.size hL).mono ?_
  rintro r w2 ⟨rfl, v2, hT2⟩
  (try go_wp2_with fail)
  replace HS := Lib.hid (HS.out.cells hT2)
  clear hT2
  refine hK.out _ _ (HS.out.tk) (fun _ => ?_)
  (try simp only [Act.put, List.setIfInBounds_toArray, List.set_cons_zero, List.set_cons_succ])
  clear hK K
  repeat (first | (refine seq_take (v := ?_) rfl ?_ ?_ ?_; rotate_left 1; rfl; (focus (intro wS hSw; obtain ⟨s0, s1, s2, s3, s4, s5, s6, s7, s8, s9, sf⟩ := hSw; go_simp; first | done | with_reducible rfl)); (try simp only [Act.put, List.setIfInBounds_toArray, List.set_cons_zero, List.set_cons_succ])) | (refine seq_skip rfl ?_ ?_; rfl; (try simp only [Act.put, List.setIfInBounds_toArray, List.set_cons_zero, List.set_cons_succ])))
  refine seq_run rfl (fun K hK => ?_)
  go_simp
  go_at_call 116
  refine (bounded_any x _ hn.1 hn.2).mono ?_
  rintro r w3 ⟨rfl, rfl⟩
  (try go_wp2_with fail)
  refine hK.out _ _ (HS.out.tk) (fun _ => ?_)
  (try simp only [Act.put, List.setIfInBounds_toArray, List.set_cons_zero, List.set_cons_succ])
  clear hK K
  repeat (first | (refine seq_take (v := ?_) rfl ?_ ?_ ?_; rotate_left 1; rfl; (focus (intro wS hSw; obtain ⟨s0, s1, s2, s3, s4, s5, s6, s7, s8, s9, sf⟩ := hSw; go_simp; first | done | with_reducible rfl)); (try simp only [Act.put, List.setIfInBounds_toArray, List.set_cons_zero, List.set_cons_succ])) | (refine seq_skip rfl ?_ ?_; rfl; (try simp only [Act.put, List.setIfInBounds_toArray, List.set_cons_zero, List.set_cons_succ])))
  refine seq_done ?_
  go_wp2
  go_ret
  exact ⟨rfl, _, HS.out⟩

set_option maxHeartbeats 2000000 in
theorem count_tick (x : Int) (hT : IsTk w b k) (hM : IsMem base w p c v C L) (ha : ¬ Foot p c v b) (hl : Lay k.t k.s n) (hnb : (nb : Int) = 2 * n + k.t) (hx : C[nb]? = some x) (hb : base ≤ w.heap.size) (hL : L.length < 1000000000) :
    Calls Tryz.prog 100 #[pt b, pt p] w (TickPost base w b p c v (fin k (low x) (low x)) (C.set nb (add64 x 1)) (L ++ [⟨k.who, 3, nb, x, add64 x 1, true⟩]) (.returned (.tuple #[]))) := by
  have HS := Lib.hid (Stepped.refl hT hM ha hb)
  have HX := Lib.hid hx
  have Hnb := Lib.hid hnb
  have hn := hM.numAt hx
  clear hM ha hx hnb
  go_enter Tryz.func100, Tryz.ntmps100
  go_wp2_with fail
  refine wp_region_seqS ((fun w' => IsTk w' b k)) ((0, true) :: (1, true) :: (2, true) :: (3, true) :: (4, true) :: (5, true) :: (6, true) :: (7, true) :: (8, true) :: (9, false) :: (10, false) :: (11, false) :: (12, true) :: []) (by kernel_rfl) (by kernel_rfl) (by kernel_rfl) (by decide) (fun _ _ _ _ _ h => h) (hT.drew) ?_
  clear hT
  repeat (first | (refine seq_take (v := ?_) rfl ?_ ?_ ?_; rotate_left 1; rfl; (focus (intro wS hSw; obtain ⟨s0, s1, s2, s3, s4, s5, s6, s7, s8, s9, sf⟩ := hSw; go_simp; first | done | with_reducible rfl)); (try simp only [Act.put, List.setIfInBounds_toArray, List.set_cons_zero, List.set_cons_succ])) | (refine seq_skip rfl ?_ ?_; rfl; (try simp only [Act.put, List.setIfInBounds_toArray, List.set_cons_zero, List.set_cons_succ])))
  refine seq_run rfl (fun K hK => ?_)
  go_simp
  go_at_call 118
  refine (cnum_0 _ _ _ _ n nb _ hl Hnb.out).mono ?_
  rintro r w1 ⟨rfl, hb1⟩
  (try go_wp2_with fail)
  replace HS := Lib.hid (HS.out.drew.later hb1)
  clear hb1
  refine hK.out _ _ (HS.out.tk) (fun _ => ?_)
  (try simp only [Act.put, List.setIfInBounds_toArray, List.set_cons_zero, List.set_cons_succ])
  clear hK K
  repeat (first | (refine seq_take (v := ?_) rfl ?_ ?_ ?_; rotate_left 1; rfl; (focus (intro wS hSw; obtain ⟨s0, s1, s2, s3, s4, s5, s6, s7, s8, s9, sf⟩ := hSw; go_simp; first | done | with_reducible rfl)); (try simp only [Act.put, List.setIfInBounds_toArray, List.set_cons_zero, List.set_cons_succ])) | (refine seq_skip rfl ?_ ?_; rfl; (try simp only [Act.put, List.setIfInBounds_toArray, List.set_cons_zero, List.set_cons_succ])))
  refine seq_run rfl (fun K hK => ?_)
  go_simp
  go_at_call 117
  refine (add_in base _ p c _ _ _ k.who nb x 1 HS.out.mem HX.out HS.out.size hL).mono ?_
  rintro r w2 ⟨rfl, v2, hT2⟩
  (try go_wp2_with fail)
  replace HS := Lib.hid (HS.out.cells hT2)
  clear hT2
  refine hK.out _ _ (HS.out.tk) (fun _ => ?_)
  (try simp only [Act.put, List.setIfInBounds_toArray, List.set_cons_zero, List.set_cons_succ])
  clear hK K
  repeat (first | (refine seq_take (v := ?_) rfl ?_ ?_ ?_; rotate_left 1; rfl; (focus (intro wS hSw; obtain ⟨s0, s1, s2, s3, s4, s5, s6, s7, s8, s9, sf⟩ := hSw; go_simp; first | done | with_reducible rfl)); (try simp only [Act.put, List.setIfInBounds_toArray, List.set_cons_zero, List.set_cons_succ])) | (refine seq_skip rfl ?_ ?_; rfl; (try simp only [Act.put, List.setIfInBounds_toArray, List.set_cons_zero, List.set_cons_succ])))
  refine seq_run rfl (fun K hK => ?_)
  go_simp
  go_at_call 116
  refine (bounded_any x _ hn.1 hn.2).mono ?_
  rintro r w3 ⟨rfl, rfl⟩
  (try go_wp2_with fail)
  refine hK.out _ _ (HS.out.tk) (fun _ => ?_)
  (try simp only [Act.put, List.setIfInBounds_toArray, List.set_cons_zero, List.set_cons_succ])
  clear hK K
  repeat (first | (refine seq_take (v := ?_) rfl ?_ ?_ ?_; rotate_left 1; rfl; (focus (intro wS hSw; obtain ⟨s0, s1, s2, s3, s4, s5, s6, s7, s8, s9, sf⟩ := hSw; go_simp; first | done | with_reducible rfl)); (try simp only [Act.put, List.setIfInBounds_toArray, List.set_cons_zero, List.set_cons_succ])) | (refine seq_skip rfl ?_ ?_; rfl; (try simp only [Act.put, List.setIfInBounds_toArray, List.set_cons_zero, List.set_cons_succ])))
  refine seq_done ?_
  go_wp2_with fail
  refine (finish_any _ b k _ _ HS.out.tk).mono ?_
  rintro r w4 ⟨⟨g, rfl⟩, hT4, hK4⟩
  go_wp2
  go_end0
  exact ⟨rfl, _, HS.out.own hT4 hK4⟩

end
end

section
open Go.RowKit
set_option linter.unusedVariables false

section
variable (base : Nat) (w : World) (b p c : Nat) (v : Value) (C : List Int) (L : List Ev) (k : Tk) (nb : Nat) (n : Int)

theorem tload_at (i : Int) (j : Nat) (hi : i = (j : Int)) (x : Int) (hT : IsTk w b k) (hM : IsMem base w p c v C L) (ha : ¬ Foot p c v b) (hl : Lay k.t k.s n) (hnb : (nb : Int) = 2 * n + k.t) (hj : (j : Int) ≤ k.t) (hx : C[nb + j]? = some x) (hb : base ≤ w.heap.size) (hL : L.length < 1000000000) :
    Calls Tryz.prog 120 #[pt b, pt p, i64 i] w (TickPost base w b p c v k C (L ++ [⟨k.who, 0, (nb + j : Nat), x, x, true⟩]) (.returned (i64 (low x)))) := by
  subst hi
  exact tload_any base w b p c v C L k nb n j x hT hM ha hl hnb hj hx hb hL
theorem tload_0 (x : Int) (hT : IsTk w b k) (hM : IsMem base w p c v C L) (ha : ¬ Foot p c v b) (hl : Lay k.t k.s n) (hnb : (nb : Int) = 2 * n + k.t) (hx : C[nb]? = some x) (hb : base ≤ w.heap.size) (hL : L.length < 1000000000) :
    Calls Tryz.prog 120 #[pt b, pt p, i64 0] w (TickPost base w b p c v k C (L ++ [⟨k.who, 0, nb, x, x, true⟩]) (.returned (i64 (low x)))) :=
  tload_any base w b p c v C L k nb n 0 x hT hM ha hl hnb (by have := hl.t1; omega) hx hb hL

set_option maxHeartbeats 2000000 in
theorem stutter_load (j : Nat) (x : Int) (hj : k.steps = (j : Int)) (hlt : k.steps < k.t) (hT : IsTk w b k) (hM : IsMem base w p c v C L) (ha : ¬ Foot p c v b) (hl : Lay k.t k.s n) (hnb : (nb : Int) = 2 * n + k.t) (hx : C[nb + j]? = some x) (hb : base ≤ w.heap.size) (hL : L.length < 1000000000) :
    Calls Tryz.prog 101 #[pt b, pt p] w (TickPost base w b p c v { k with seen := max k.seen (low x) } C (L ++ [⟨k.who, 0, (nb + j : Nat), x, x, true⟩]) (.returned (.tuple #[]))) := by
  have HS := Lib.hid (Stepped.refl hT hM ha hb)
  have HX := Lib.hid hx
  have Hnb := Lib.hid hnb
  have Hj := Lib.hid hj
  have hjt : (j : Int) ≤ k.t := by omega
  clear hM ha hx hnb hj
  go_enter Tryz.func101, Tryz.ntmps101
  go_wp2_with fail
  refine wp_region_seqS ((fun w' => IsTk w' b k)) ((0, true) :: (1, true) :: (2, true) :: (3, true) :: (4, true) :: (5, true) :: (6, true) :: (7, true) :: (8, true) :: (9, true) :: []) (by kernel_rfl) (by kernel_rfl) (by kernel_rfl) (by decide) (fun _ _ _ _ _ h => h) (hT.drew) ?_
  clear hT
  repeat (first | (refine seq_take (v := ?_) rfl ?_ ?_ ?_; rotate_left 1; rfl; (focus (intro wS hSw; obtain ⟨s0, s1, s2, s3, s4, s5, s6, s7, s8, s9, sf⟩ := hSw; go_simp; first | done | with_reducible rfl)); (try simp only [Act.put, List.setIfInBounds_toArray, List.set_cons_zero, List.set_cons_succ])) | (refine seq_skip rfl ?_ ?_; rfl; (try simp only [Act.put, List.setIfInBounds_toArray, List.set_cons_zero, List.set_cons_succ])))
  refine seq_done ?_
  replace HS := Lib.hid HS.out.drew
  obtain ⟨s0, s1, s2, s3, s4, s5, s6, s7, s8, s9, sf⟩ := id HS.out.tk
  have f6 := sf 6
  clear sf
  go_wp2_with fail
  replace HS := Lib.hid HS.out.drew
  go_region_law (go_simp; go_at_call 120; refine (tload_at base _ b p c _ C L k nb n _ j Hj.out x HS.out.tk HS.out.mem HS.out.apart hl Hnb.out hjt HX.out HS.out.size hL).mono ?_; rintro r w1 ⟨rfl, v1, hS1⟩; obtain ⟨t0, t1, t2, t3, t4, t5, t6, t7, t8, t9, tf⟩ := id hS1.tk; have g6 := tf 6; clear tf)
  all_goals
    replace HS := Lib.hid (HS.out.trans hS1)
    clear hS1
    go_wp2
  all_goals
    go_end0
    first
    | (rw [show max k.seen (low x) = low x by omega]
       exact ⟨rfl, _, HS.out.own (setTk HS.out.tk (k' := { k with seen := low x }) 6 (.int .i64 (low x)) rfl) ((Keep.refl _ _).own 6 _)⟩)
    | (rw [show max k.seen (low x) = k.seen by omega]
       exact ⟨rfl, _, HS.out.own (setTk HS.out.tk (k' := { k with seen := k.seen }) 6 (.int .i64 k.seen) rfl) ((Keep.refl _ _).own 6 _)⟩)

theorem Stepped.out {base : Nat} {w w1 : World} {b p c : Nat} {v v1 : Value} {k : Tk} {C : List Int} {L : List Ev} (h : Stepped base w w1 b p c v v1 k C L) : IsTk w1 b k ∧ w1.frozen? ⟨b, 5, none⟩ = false ∧ w1.frozen? ⟨b, 6, none⟩ = false ∧ w1.frozen? ⟨b, 7, none⟩ = false := ⟨h.tk, h.tk.fz 5, h.tk.fz 6, h.tk.fz 7⟩

set_option maxHeartbeats 2000000 in
theorem stutter_full (hge : k.t ≤ k.steps) (e0 : 0 ≤ k.seen) (e1 : k.seen ≤ 16777215) (hfull : 16777215 ≤ k.seen + 1) (hT : IsTk w b k) (hM : IsMem base w p c v C L) (ha : ¬ Foot p c v b) (hb : base ≤ w.heap.size) :
    Calls Tryz.prog 101 #[pt b, pt p] w (TickPost base w b p c v { k with ph := 2 } C L (.returned (.tuple #[]))) := by
  have HS := Lib.hid (Stepped.refl hT hM ha hb)
  have hge' : ¬ k.steps < k.t := by omega
  clear hM ha
  go_enter Tryz.func101, Tryz.ntmps101
  go_wp2_with fail
  refine wp_region_seqS ((fun w' => IsTk w' b k)) ((0, true) :: (1, true) :: (2, true) :: (3, true) :: (4, true) :: (5, true) :: (6, true) :: (7, true) :: (8, true) :: (9, true) :: []) (by kernel_rfl) (by kernel_rfl) (by kernel_rfl) (by decide) (fun _ _ _ _ _ h => h) (hT.drew) ?_
  clear hT
  repeat (first | (refine seq_take (v := ?_) rfl ?_ ?_ ?_; rotate_left 1; rfl; (focus (intro wS hSw; obtain ⟨s0, s1, s2, s3, s4, s5, s6, s7, s8, s9, sf⟩ := hSw; go_simp; first | done | with_reducible rfl)); (try simp only [Act.put, List.setIfInBounds_toArray, List.set_cons_zero, List.set_cons_succ])) | (refine seq_skip rfl ?_ ?_; rfl; (try simp only [Act.put, List.setIfInBounds_toArray, List.set_cons_zero, List.set_cons_succ])))
  refine seq_done ?_
  replace HS := Lib.hid HS.out.drew
  obtain ⟨s0, s1, s2, s3, s4, s5, s6, s7, s8, s9, sf⟩ := id HS.out.tk
  clear sf
  go_wp2_with fail
  refine (finish_no _ b k _ _ HS.out.tk (by omega)).mono ?_
  rintro r w1 ⟨rfl, hT1, hK1⟩
  replace HS := Lib.hid (HS.out.own hT1 hK1)
  clear hT1 hK1 s0 s1 s2 s3 s4 s5 s6 s7 s8 s9
  go_wp2
  go_end0
  exact ⟨rfl, _, HS.out⟩

set_option maxHeartbeats 2000000 in
theorem stutter_done (j : Nat) (x : Int) (hj : k.who = (j : Int)) (hjt : k.who < k.t) (hge : k.t ≤ k.steps) (e0 : 0 ≤ k.seen) (hfull : k.seen + 1 < 16777215) (hT : IsTk w b k) (hM : IsMem base w p c v C L) (ha : ¬ Foot p c v b) (hl : Lay k.t k.s n) (hnb : (nb : Int) = 2 * n + k.t) (hx : C[nb + j]? = some x) (hb : base ≤ w.heap.size) (hL : L.length < 1000000000) :
    Calls Tryz.prog 101 #[pt b, pt p] w (TickPost base w b p c v { k with ph := 1, lo := k.seen + 1, hi := k.seen + 1 } (C.set (nb + j) (k.seen + 1)) (L ++ [⟨k.who, 1, (nb + j : Nat), x, k.seen + 1, true⟩]) (.returned (.tuple #[]))) := by
  have HS := Lib.hid (Stepped.refl hT hM ha hb)
  have HX := Lib.hid hx
  have Hnb := Lib.hid hnb
  have hjt' : (j : Int) ≤ k.t := by omega
  have HN := fun W => cnum_at k.t k.s k.so k.d n nb j W hl hnb hjt'
  rw [← hj] at HN
  have EW : Hid (IntKind.u64.wrap (k.seen + 1) = k.seen + 1) := by show _ = _; rw [IntKind.wrap_u64]; omega
  replace HN := Lib.hid HN
  have hge' : ¬ k.steps < k.t := by omega
  clear hM ha hx hnb hj
  go_enter Tryz.func101, Tryz.ntmps101
  go_wp2_with fail
  refine wp_region_seqS ((fun w' => IsTk w' b k)) ((0, true) :: (1, true) :: (2, true) :: (3, true) :: (4, true) :: (5, true) :: (6, true) :: (7, true) :: (8, true) :: (9, true) :: []) (by kernel_rfl) (by kernel_rfl) (by kernel_rfl) (by decide) (fun _ _ _ _ _ h => h) (hT.drew) ?_
  clear hT
  repeat (first | (refine seq_take (v := ?_) rfl ?_ ?_ ?_; rotate_left 1; rfl; (focus (intro wS hSw; obtain ⟨s0, s1, s2, s3, s4, s5, s6, s7, s8, s9, sf⟩ := hSw; go_simp; first | done | with_reducible rfl)); (try simp only [Act.put, List.setIfInBounds_toArray, List.set_cons_zero, List.set_cons_succ])) | (refine seq_skip rfl ?_ ?_; rfl; (try simp only [Act.put, List.setIfInBounds_toArray, List.set_cons_zero, List.set_cons_succ])))
  refine seq_done ?_
  replace HS := Lib.hid HS.out.drew
  obtain ⟨s0, s1, s2, s3, s4, s5, s6, s7, s8, s9, sf⟩ := id HS.out.tk
  clear sf
  go_wp2_with fail
  refine (finish_yes _ b k _ _ HS.out.tk (by omega)).mono ?_
  rintro r w1 ⟨rfl, hT1, hK1⟩
  replace HS := Lib.hid (HS.out.own hT1 hK1)
  clear hT1 hK1 s0 s1 s2 s3 s4 s5 s6 s7 s8 s9
  go_wp2_with fail
  refine wp_region_seqS ((fun w' => IsTk w' b { k with ph := 1, lo := k.seen + 1, hi := k.seen + 1 })) ((0, true) :: (1, true) :: (2, true) :: (3, true) :: (4, true) :: (5, true) :: (6, true) :: (7, true) :: (8, true) :: (9, true) :: (10, true) :: (11, true) :: (12, true) :: (14, true) :: (15, true) :: (13, false) :: (16, false) :: []) (by kernel_rfl) (by kernel_rfl) (by kernel_rfl) (by decide) (fun _ _ _ _ _ h => h) (HS.out.drew.tk) ?_
  repeat (first | (refine seq_take (v := ?_) rfl ?_ ?_ ?_; rotate_left 1; rfl; (focus (intro wS hSw; obtain ⟨s0, s1, s2, s3, s4, s5, s6, s7, s8, s9, sf⟩ := hSw; go_simp; first | done | with_reducible rfl)); (try simp only [Act.put, List.setIfInBounds_toArray, List.set_cons_zero, List.set_cons_succ])) | (refine seq_skip rfl ?_ ?_; rfl; (try simp only [Act.put, List.setIfInBounds_toArray, List.set_cons_zero, List.set_cons_succ])))
  refine seq_run rfl (fun K hK => ?_)
  go_simp
  go_at_call 118
  refine (HN.out _).mono ?_
  rintro r w1 ⟨rfl, hb1⟩
  (try go_wp2_with fail)
  replace HS := Lib.hid (HS.out.drew.later hb1)
  clear hb1
  refine hK.out _ _ (HS.out.tk) (fun _ => ?_)
  (try simp only [Act.put, List.setIfInBounds_toArray, List.set_cons_zero, List.set_cons_succ])
  clear hK K
  repeat (first | (refine seq_take (v := ?_) rfl ?_ ?_ ?_; rotate_left 1; rfl; (focus (intro wS hSw; obtain ⟨s0, s1, s2, s3, s4, s5, s6, s7, s8, s9, sf⟩ := hSw; go_simp; first | done | with_reducible rfl)); (try simp only [Act.put, List.setIfInBounds_toArray, List.set_cons_zero, List.set_cons_succ])) | (refine seq_skip rfl ?_ ?_; rfl; (try simp only [Act.put, List.setIfInBounds_toArray, List.set_cons_zero, List.set_cons_succ])))
  refine seq_run rfl (fun K hK => ?_)
  go_simp
  go_at_call 86
  rw [EW.out]
  refine (store_in base _ p c _ _ _ k.who (nb + j) x _ HS.out.mem HX.out HS.out.size hL (by omega) (by omega)).mono ?_
  rintro r w2 ⟨rfl, v2, hT2⟩
  (try go_wp2_with fail)
  replace HS := Lib.hid (HS.out.cells hT2)
  clear hT2
  refine hK.out _ _ (HS.out.tk) (fun _ => ?_)
  (try simp only [Act.put, List.setIfInBounds_toArray, List.set_cons_zero, List.set_cons_succ])
  clear hK K
  refine seq_done ?_
  go_wp2
  go_end0
  exact ⟨rfl, _, HS.out⟩

set_option maxHeartbeats 2000000 in
theorem swap_0 (x : Int) (hs : k.steps = 0) (hT : IsTk w b k) (hM : IsMem base w p c v C L) (ha : ¬ Foot p c v b) (hl : Lay k.t k.s n) (hnb : (nb : Int) = 2 * n + k.t) (hx : C[nb]? = some x) (hb : base ≤ w.heap.size) (hL : L.length < 1000000000) (hp : k.ph = 0) :
    Calls Tryz.prog 102 #[pt b, pt p] w (TickPost base w b p c v { k with seen := low x, ph := if low x = 16777215 then 2 else 0 } C (L ++ [⟨k.who, 0, nb, x, x, true⟩]) (.returned (.tuple #[]))) := by
  have HS := Lib.hid (Stepped.refl hT hM ha hb)
  have HX := Lib.hid hx
  have Hnb := Lib.hid hnb
  have q0 : (k.steps == 0) = true := by simp [hs]
  have q3 : (k.steps == 1) = false := by simp [hs]
  have q2 : (k.steps == 2) = false := by simp [hs]
  have Hp := Lib.hid hp
  clear hM ha hx hnb hs hp
  obtain ⟨s0, s1, s2, s3, s4, s5, s6, s7, s8, s9, sf⟩ := id hT
  clear sf hT
  have hf2 : ((low x == 16777215) = true ∧ low x = 16777215) ∨ ((low x == 16777215) = false ∧ ¬ low x = 16777215) := by
    by_cases h : low x = 16777215
    · exact .inl ⟨by simp [h], h⟩
    · exact .inr ⟨by simp [h], h⟩
  rcases hf2 with ⟨qf, hfull⟩ | ⟨qf, hfull⟩
  all_goals
    have Hf := Lib.hid hfull
    clear hfull
    go_enter Tryz.func102, Tryz.ntmps102
    go_wp2_with fail
    refine (tload_0 base _ b p c _ C L k nb n x HS.out.tk HS.out.mem HS.out.apart hl Hnb.out HX.out HS.out.size hL).mono ?_
    rintro r w1 ⟨rfl, v1, hS1⟩
    replace HS := Lib.hid (HS.out.trans hS1)
    clear hS1
    obtain ⟨t0, t1, t2, t3, t4, t5, t6, t7, t8, t9, tf⟩ := id HS.out.tk
    have g6 := tf 6
    have g7 := tf 7
    clear tf
    go_wp2
    go_end0
    first
    | (exact ⟨rfl, _, HS.out.own (setTk (setTk HS.out.tk (k' := { k with seen := 16777215 }) 6 (.int .i64 16777215) rfl) (k' := { k with seen := 16777215, ph := 2 }) 7 (.int .i64 2) rfl) (((Keep.refl _ _).own 6 _).own 7 _)⟩)
    | (exact ⟨rfl, _, HS.out.own (setTk HS.out.tk (k' := { k with seen := low x, ph := 0 }) 6 (.int .i64 (low x)) (by rw [← Hp.out]; rfl)) ((Keep.refl _ _).own 6 _)⟩)

set_option maxHeartbeats 2000000 in
theorem swap_1 (x : Int) (hs : k.steps = 1) (hT : IsTk w b k) (hM : IsMem base w p c v C L) (ha : ¬ Foot p c v b) (hl : Lay k.t k.s n) (hnb : (nb : Int) = 2 * n + k.t) (hx : C[nb]? = some x) (hb : base ≤ w.heap.size) (hL : L.length < 1000000000) :
    Calls Tryz.prog 102 #[pt b, pt p] w (TickPost base w b p c v (if low x = k.seen then k else fin k k.seen (low x - 1)) C (L ++ [⟨k.who, 0, nb, x, x, true⟩]) (.returned (.tuple #[]))) := by
  have HS := Lib.hid (Stepped.refl hT hM ha hb)
  have HX := Lib.hid hx
  have Hnb := Lib.hid hnb
  have q0 : (k.steps == 0) = false := by simp [hs]
  have q1 : (k.steps == 1) = true := by simp [hs]
  have hx0 := low_range x (hM.numAt hx).1
  have hx1 := hx0.2
  replace hx0 := hx0.1
  clear hM ha hx hnb hs
  obtain ⟨s0, s1, s2, s3, s4, s5, s6, s7, s8, s9, sf⟩ := id hT
  clear sf hT
  by_cases hfull : low x = k.seen
  · have Hf := Lib.hid hfull
    have qf : (low x != k.seen) = false := by simp [hfull]
    rw [if_pos hfull]
    clear hfull
    go_enter Tryz.func102, Tryz.ntmps102
    go_wp2_with fail
    refine (tload_0 base _ b p c _ C L k nb n x HS.out.tk HS.out.mem HS.out.apart hl Hnb.out HX.out HS.out.size hL).mono ?_
    rintro r w1 ⟨rfl, v1, hS1⟩
    replace HS := Lib.hid (HS.out.trans hS1)
    clear hS1
    obtain ⟨t0, t1, t2, t3, t4, t5, t6, t7, t8, t9, tf⟩ := id HS.out.tk
    clear tf
    go_wp2
    go_end0
    exact ⟨rfl, _, HS.out⟩
  · have Hf := Lib.hid hfull
    have qf : (low x != k.seen) = true := by simp [hfull]
    rw [if_neg hfull]
    clear hfull
    go_enter Tryz.func102, Tryz.ntmps102
    go_wp2_with fail
    refine (tload_0 base _ b p c _ C L k nb n x HS.out.tk HS.out.mem HS.out.apart hl Hnb.out HX.out HS.out.size hL).mono ?_
    rintro r w1 ⟨rfl, v1, hS1⟩
    replace HS := Lib.hid (HS.out.trans hS1)
    clear hS1
    obtain ⟨t0, t1, t2, t3, t4, t5, t6, t7, t8, t9, tf⟩ := id HS.out.tk
    clear tf
    go_wp2_with fail
    refine (finish_any _ b k _ _ HS.out.tk).mono ?_
    rintro r w4 ⟨⟨g, rfl⟩, hT4, hK4⟩
    go_wp2
    go_end0
    exact ⟨rfl, _, HS.out.own hT4 hK4⟩
end
end

section
open Go.RowKit
set_option linter.unusedVariables false

theorem fin_seen (k : Tk) (x y : Int) : (fin k x y).seen = k.seen := by unfold fin; split <;> rfl

section
variable (base : Nat) (w : World) (b p c : Nat) (v : Value) (C : List Int) (L : List Ev) (k : Tk) (nb : Nat) (n : Int)

set_option maxHeartbeats 2000000 in
theorem swap_3 (x : Int) (hs : 3 ≤ k.steps) (hT : IsTk w b k) (hM : IsMem base w p c v C L) (ha : ¬ Foot p c v b) (hl : Lay k.t k.s n) (hnb : (nb : Int) = 2 * n + k.t) (hx : C[nb]? = some x) (hb : base ≤ w.heap.size) (hL : L.length < 1000000000) :
    Calls Tryz.prog 102 #[pt b, pt p] w (TickPost base w b p c v (fin k k.seen (low x - 1)) C (L ++ [⟨k.who, 0, nb, x, x, true⟩]) (.returned (.tuple #[]))) := by
  have HS := Lib.hid (Stepped.refl hT hM ha hb)
  have HX := Lib.hid hx
  have Hnb := Lib.hid hnb
  have q0 : (k.steps == 0) = false := by simp; omega
  have q1 : (k.steps == 1) = false := by simp; omega
  have q2 : (k.steps == 2) = false := by simp; omega
  have hx0 := low_range x (hM.numAt hx).1
  have hx1 := hx0.2
  replace hx0 := hx0.1
  have EW : Hid (IntKind.i64.wrap (low x - 1) = low x - 1) := by show _ = _; rw [IntWalk.i64_in _ (by omega)]
  clear hM ha hx hnb hs
  obtain ⟨s0, s1, s2, s3, s4, s5, s6, s7, s8, s9, sf⟩ := id hT
  clear sf
  go_enter Tryz.func102, Tryz.ntmps102
  go_wp2_with fail
  refine wp_region_seqS ((fun w' => w'.cell? ⟨b, 6, none⟩ = some (i64 k.seen))) ((0, true) :: (1, true) :: (2, true) :: (3, true) :: (4, true) :: (5, true) :: (6, true) :: (7, false) :: (8, true) :: (9, false) :: []) (by kernel_rfl) (by kernel_rfl) (by kernel_rfl) (by decide) (fun _ _ _ _ _ h => h) (hT.drew.c6) ?_
  clear hT s0 s1 s2 s3 s4 s5 s6 s7 s8 s9
  replace HS := Lib.hid HS.out.drew
  repeat (first | (refine seq_take (v := ?_) rfl ?_ ?_ ?_; rotate_left 1; rfl; (focus (intro wS hSw; skip; go_simp; first | done | with_reducible rfl)); (try simp only [Act.put, List.setIfInBounds_toArray, List.set_cons_zero, List.set_cons_succ])) | (refine seq_skip rfl ?_ ?_; rfl; (try simp only [Act.put, List.setIfInBounds_toArray, List.set_cons_zero, List.set_cons_succ])))
  refine seq_run rfl (fun K hK => ?_)
  go_simp
  go_at_call 120
  refine (tload_0 base _ b p c _ C L k nb n x HS.out.tk HS.out.mem HS.out.apart hl Hnb.out HX.out HS.out.size hL).mono ?_
  rintro r w1 ⟨rfl, v1, hS1⟩
  (try go_wp2_with fail)
  replace HS := Lib.hid (HS.out.trans hS1)
  clear hS1
  refine hK.out _ _ (HS.out.tk.c6) (fun _ => ?_)
  (try simp only [Act.put, List.setIfInBounds_toArray, List.set_cons_zero, List.set_cons_succ])
  clear hK K
  repeat (first | (refine seq_take (v := ?_) rfl ?_ ?_ ?_; rotate_left 1; rfl; (focus (intro wS hSw; skip; go_simp; first | done | with_reducible rfl)); (try simp only [Act.put, List.setIfInBounds_toArray, List.set_cons_zero, List.set_cons_succ])) | (refine seq_skip rfl ?_ ?_; rfl; (try simp only [Act.put, List.setIfInBounds_toArray, List.set_cons_zero, List.set_cons_succ])))
  rw [EW.out]
  refine seq_run rfl (fun K hK => ?_)
  go_simp
  go_at_call 119
  refine (finish_any _ b k _ _ HS.out.tk).mono ?_
  rintro r w4 ⟨⟨g, rfl⟩, hT4, hK4⟩
  (try go_wp2_with fail)
  replace HS := Lib.hid (HS.out.own hT4 hK4)
  clear hT4 hK4
  refine hK.out _ _ (HS.out.tk.c6.trans (by rw [fin_seen])) (fun _ => ?_)
  (try simp only [Act.put, List.setIfInBounds_toArray, List.set_cons_zero, List.set_cons_succ])
  clear hK K
  refine seq_done ?_
  go_wp2
  go_end0
  exact ⟨rfl, _, HS.out⟩

set_option maxHeartbeats 2000000 in
theorem swap_2y (x : Int) (hs : k.steps = 2) (hxs : x = k.seen) (e1 : k.seen < 16777215) (hT : IsTk w b k) (hM : IsMem base w p c v C L) (ha : ¬ Foot p c v b) (hl : Lay k.t k.s n) (hnb : (nb : Int) = 2 * n + k.t) (hx : C[nb]? = some x) (hb : base ≤ w.heap.size) (hL : L.length < 1000000000) :
    Calls Tryz.prog 102 #[pt b, pt p] w (TickPost base w b p c v (fin k k.seen k.seen) (C.set nb (k.seen + 1)) (L ++ [⟨k.who, 2, nb, x, k.seen + 1, true⟩]) (.returned (.tuple #[]))) := by
  have HS := Lib.hid (Stepped.refl hT hM ha hb)
  have HX := Lib.hid hx
  have Hnb := Lib.hid hnb
  have q0 : (k.steps == 0) = false := by simp [hs]
  have q1 : (k.steps == 1) = false := by simp [hs]
  have q2 : (k.steps == 2) = true := by simp [hs]
  have e0 := (hM.numAt hx).1
  have EA : Hid (IntKind.u64.wrap k.seen = x) := by show _ = _; rw [IntKind.wrap_u64, hxs]; omega
  have EW : Hid (IntKind.u64.wrap (x + 1) = k.seen + 1) := by show _ = _; rw [IntKind.wrap_u64, hxs]; omega
  have b0 : 0 ≤ k.seen + 1 := by omega
  clear hM ha hx hnb hs hxs
  obtain ⟨s0, s1, s2, s3, s4, s5, s6, s7, s8, s9, sf⟩ := id hT
  clear sf
  go_enter Tryz.func102, Tryz.ntmps102
  go_wp2_with fail
  try rw [EA.out]
  refine wp_region_seqS ((fun w' => IsTk w' b k)) ((0, true) :: (1, true) :: (2, true) :: (3, true) :: (4, true) :: (5, true) :: (6, true) :: (7, true) :: (8, true) :: (10, true) :: (11, true) :: (12, true) :: (9, false) :: (13, false) :: []) (by kernel_rfl) (by kernel_rfl) (by kernel_rfl) (by decide) (fun _ _ _ _ _ h => h) (hT.drew) ?_
  clear hT s0 s1 s2 s3 s4 s5 s6 s7 s8 s9
  replace HS := Lib.hid HS.out.drew
  repeat (first | (refine seq_take (v := ?_) rfl ?_ ?_ ?_; rotate_left 1; rfl; (focus (intro wS hSw; obtain ⟨s0, s1, s2, s3, s4, s5, s6, s7, s8, s9, sf⟩ := hSw; go_simp; first | done | with_reducible rfl)); (try simp only [Act.put, List.setIfInBounds_toArray, List.set_cons_zero, List.set_cons_succ])) | (refine seq_skip rfl ?_ ?_; rfl; (try simp only [Act.put, List.setIfInBounds_toArray, List.set_cons_zero, List.set_cons_succ])))
  refine seq_run rfl (fun K hK => ?_)
  go_simp
  go_at_call 118
  refine (cnum_0 _ _ _ _ n nb _ hl Hnb.out).mono ?_
  rintro r w1 ⟨rfl, hb1⟩
  (try go_wp2_with fail)
  replace HS := Lib.hid (HS.out.later hb1)
  clear hb1
  refine hK.out _ _ (HS.out.tk) (fun _ => ?_)
  (try simp only [Act.put, List.setIfInBounds_toArray, List.set_cons_zero, List.set_cons_succ])
  clear hK K
  repeat (first | (refine seq_take (v := ?_) rfl ?_ ?_ ?_; rotate_left 1; rfl; (focus (intro wS hSw; obtain ⟨s0, s1, s2, s3, s4, s5, s6, s7, s8, s9, sf⟩ := hSw; go_simp; first | done | with_reducible rfl)); (try simp only [Act.put, List.setIfInBounds_toArray, List.set_cons_zero, List.set_cons_succ])) | (refine seq_skip rfl ?_ ?_; rfl; (try simp only [Act.put, List.setIfInBounds_toArray, List.set_cons_zero, List.set_cons_succ])))
  refine seq_run rfl (fun K hK => ?_)
  go_simp
  try rw [EA.out]
  try rw [EW.out]
  go_at_call 121
  refine (swap_yes base _ p c _ _ _ k.who nb x (k.seen + 1) HS.out.mem HX.out HS.out.size hL (by omega) (by omega)).mono ?_
  rintro r w2 ⟨rfl, v2, hT2⟩
  (try go_wp2_with fail)
  replace HS := Lib.hid (HS.out.cells hT2)
  clear hT2
  refine hK.out _ _ (HS.out.tk) (fun _ => ?_)
  (try simp only [Act.put, List.setIfInBounds_toArray, List.set_cons_zero, List.set_cons_succ])
  clear hK K
  repeat (first | (refine seq_take (v := ?_) rfl ?_ ?_ ?_; rotate_left 1; rfl; (focus (intro wS hSw; obtain ⟨s0, s1, s2, s3, s4, s5, s6, s7, s8, s9, sf⟩ := hSw; go_simp; first | done | with_reducible rfl)); (try simp only [Act.put, List.setIfInBounds_toArray, List.set_cons_zero, List.set_cons_succ])) | (refine seq_skip rfl ?_ ?_; rfl; (try simp only [Act.put, List.setIfInBounds_toArray, List.set_cons_zero, List.set_cons_succ])))
  refine seq_done ?_
  go_wp2_with fail
  refine wp_region_seqS ((fun w' => w'.cell? ⟨b, 6, none⟩ = some (i64 k.seen))) ((0, true) :: (1, true) :: (2, true) :: (3, true) :: (4, true) :: (5, true) :: (6, true) :: (7, true) :: (8, true) :: (9, false) :: []) (by kernel_rfl) (by kernel_rfl) (by kernel_rfl) (by decide) (fun _ _ _ _ _ h => h) (HS.out.tk.drew.c6) ?_
  replace HS := Lib.hid HS.out.drew
  repeat (first | (refine seq_take (v := ?_) rfl ?_ ?_ ?_; rotate_left 1; rfl; (focus (intro wS hSw; skip; go_simp; first | done | with_reducible rfl)); (try simp only [Act.put, List.setIfInBounds_toArray, List.set_cons_zero, List.set_cons_succ])) | (refine seq_skip rfl ?_ ?_; rfl; (try simp only [Act.put, List.setIfInBounds_toArray, List.set_cons_zero, List.set_cons_succ])))
  refine seq_run rfl (fun K hK => ?_)
  go_simp
  go_at_call 119
  refine (finish_any _ b k _ _ HS.out.tk).mono ?_
  rintro r w4 ⟨⟨g, rfl⟩, hT4, hK4⟩
  (try go_wp2_with fail)
  replace HS := Lib.hid (HS.out.own hT4 hK4)
  clear hT4 hK4
  refine hK.out _ _ (HS.out.tk.c6.trans (by rw [fin_seen])) (fun _ => ?_)
  (try simp only [Act.put, List.setIfInBounds_toArray, List.set_cons_zero, List.set_cons_succ])
  clear hK K
  refine seq_done ?_
  go_wp2
  go_end0
  exact ⟨rfl, _, HS.out⟩

set_option maxHeartbeats 2000000 in
theorem swap_2n (x : Int) (hs : k.steps = 2) (hxs : x ≠ k.seen) (e0 : 0 ≤ k.seen) (e1 : k.seen < 16777215) (hT : IsTk w b k) (hM : IsMem base w p c v C L) (ha : ¬ Foot p c v b) (hl : Lay k.t k.s n) (hnb : (nb : Int) = 2 * n + k.t) (hx : C[nb]? = some x) (hb : base ≤ w.heap.size) (hL : L.length < 1000000000) :
    Calls Tryz.prog 102 #[pt b, pt p] w (TickPost base w b p c v k C (L ++ [⟨k.who, 2, nb, x, x, false⟩]) (.returned (.tuple #[]))) := by
  have HS := Lib.hid (Stepped.refl hT hM ha hb)
  have HX := Lib.hid hx
  have Hnb := Lib.hid hnb
  have q0 : (k.steps == 0) = false := by simp [hs]
  have q1 : (k.steps == 1) = false := by simp [hs]
  have q2 : (k.steps == 2) = true := by simp [hs]
  have EA : Hid (IntKind.u64.wrap k.seen = k.seen) := by show _ = _; rw [IntKind.wrap_u64]; omega
  have HN := Lib.hid hxs
  clear hM ha hx hnb hs hxs
  obtain ⟨s0, s1, s2, s3, s4, s5, s6, s7, s8, s9, sf⟩ := id hT
  clear sf
  go_enter Tryz.func102, Tryz.ntmps102
  go_wp2_with fail
  try rw [EA.out]
  refine wp_region_seqS ((fun w' => IsTk w' b k)) ((0, true) :: (1, true) :: (2, true) :: (3, true) :: (4, true) :: (5, true) :: (6, true) :: (7, true) :: (8, true) :: (10, true) :: (11, true) :: (12, true) :: (9, false) :: (13, false) :: []) (by kernel_rfl) (by kernel_rfl) (by kernel_rfl) (by decide) (fun _ _ _ _ _ h => h) (hT.drew) ?_
  clear hT s0 s1 s2 s3 s4 s5 s6 s7 s8 s9
  replace HS := Lib.hid HS.out.drew
  repeat (first | (refine seq_take (v := ?_) rfl ?_ ?_ ?_; rotate_left 1; rfl; (focus (intro wS hSw; obtain ⟨s0, s1, s2, s3, s4, s5, s6, s7, s8, s9, sf⟩ := hSw; go_simp; first | done | with_reducible rfl)); (try simp only [Act.put, List.setIfInBounds_toArray, List.set_cons_zero, List.set_cons_succ])) | (refine seq_skip rfl ?_ ?_; rfl; (try simp only [Act.put, List.setIfInBounds_toArray, List.set_cons_zero, List.set_cons_succ])))
  refine seq_run rfl (fun K hK => ?_)
  go_simp
  go_at_call 118
  refine (cnum_0 _ _ _ _ n nb _ hl Hnb.out).mono ?_
  rintro r w1 ⟨rfl, hb1⟩
  (try go_wp2_with fail)
  replace HS := Lib.hid (HS.out.later hb1)
  clear hb1
  refine hK.out _ _ (HS.out.tk) (fun _ => ?_)
  (try simp only [Act.put, List.setIfInBounds_toArray, List.set_cons_zero, List.set_cons_succ])
  clear hK K
  repeat (first | (refine seq_take (v := ?_) rfl ?_ ?_ ?_; rotate_left 1; rfl; (focus (intro wS hSw; obtain ⟨s0, s1, s2, s3, s4, s5, s6, s7, s8, s9, sf⟩ := hSw; go_simp; first | done | with_reducible rfl)); (try simp only [Act.put, List.setIfInBounds_toArray, List.set_cons_zero, List.set_cons_succ])) | (refine seq_skip rfl ?_ ?_; rfl; (try simp only [Act.put, List.setIfInBounds_toArray, List.set_cons_zero, List.set_cons_succ])))
  refine seq_run rfl (fun K hK => ?_)
  go_simp
  try rw [EA.out]
  go_at_call 121
  refine (swap_no base _ p c _ _ _ k.who nb x k.seen _ HS.out.mem HX.out HS.out.size hL HN.out).mono ?_
  rintro r w2 ⟨rfl, v2, hT2⟩
  (try go_wp2_with fail)
  replace HS := Lib.hid (HS.out.cells hT2)
  clear hT2
  refine hK.out _ _ (HS.out.tk) (fun _ => ?_)
  (try simp only [Act.put, List.setIfInBounds_toArray, List.set_cons_zero, List.set_cons_succ])
  clear hK K
  repeat (first | (refine seq_take (v := ?_) rfl ?_ ?_ ?_; rotate_left 1; rfl; (focus (intro wS hSw; obtain ⟨s0, s1, s2, s3, s4, s5, s6, s7, s8, s9, sf⟩ := hSw; go_simp; first | done | with_reducible rfl)); (try simp only [Act.put, List.setIfInBounds_toArray, List.set_cons_zero, List.set_cons_succ])) | (refine seq_skip rfl ?_ ?_; rfl; (try simp only [Act.put, List.setIfInBounds_toArray, List.set_cons_zero, List.set_cons_succ])))
  refine seq_done ?_
  go_wp2
  go_end0
  exact ⟨rfl, _, HS.out⟩

theorem low_min (x : Int) (h : 0 ≤ x) : 0 ≤ low x ∧ low x ≤ 16777215 := low_range x h

set_option maxHeartbeats 2000000 in
theorem time_go (u : Int) (hso : k.so = 4) (hst : k.steps ≤ k.d) (hT : IsTk w b k) :
    Calls Tryz.prog 103 #[pt b, i64 u] w fun r w' => r = .returned (.tuple #[]) ∧ IsTk w' b { k with seen := if k.steps = 0 then u else k.seen } ∧ Keep (· = b) w w' := by
  have q4 : (k.so == 4) = true := by simp [hso]
  have q3 : (k.so == 3) = false := by simp [hso]
  clear hso
  obtain ⟨s0, s1, s2, s3, s4, s5, s6, s7, s8, s9, sf⟩ := id hT
  have f6 := sf 6
  clear sf
  have HT := Lib.hid hT
  clear hT
  have h2 : ((k.steps == 0) = true ∧ k.steps = 0) ∨ ((k.steps == 0) = false ∧ ¬ k.steps = 0) := by
    by_cases h : k.steps = 0
    · exact .inl ⟨by simp [h], h⟩
    · exact .inr ⟨by simp [h], h⟩
  rcases h2 with ⟨q0, h0⟩ | ⟨q0, h0⟩
  · rw [if_pos h0]
    clear h0
    go_enter Tryz.func103, Tryz.ntmps103
    go_wp2_with fail
    have hT1 := setTk HT.out (k' := { k with seen := u }) 6 (.int .i64 u) rfl
    have HT1 := Lib.hid hT1
    have HK1 : Hid (Keep (· = b) w (w.setCell ⟨b, 6, none⟩ (.int .i64 u))) := (Keep.refl _ _).own 6 _
    clear s0 s1 s2 s3 s4 s5 s6 s7 s8 s9 f6
    obtain ⟨s0, s1, s2, s3, s4, s5, s6, s7, s8, s9, sf⟩ := id hT1
    clear sf hT1
    refine wp_region_seqS ((fun w' => IsTk w' b { k with seen := u })) ((0, true) :: (1, true) :: (2, true) :: (3, true) :: (4, true) :: (5, true) :: (6, true) :: (7, true) :: (8, true) :: (9, true) :: []) (by kernel_rfl) (by kernel_rfl) (by kernel_rfl) (by decide) (fun _ _ _ _ _ h => h) (HT1.out.drew) ?_
    repeat (first | (refine seq_take (v := ?_) rfl ?_ ?_ ?_; rotate_left 1; rfl; (focus (intro wS hSw; obtain ⟨s0, s1, s2, s3, s4, s5, s6, s7, s8, s9, sf⟩ := hSw; go_simp; first | done | with_reducible rfl)); (try simp only [Act.put, List.setIfInBounds_toArray, List.set_cons_zero, List.set_cons_succ])) | (refine seq_skip rfl ?_ ?_; rfl; (try simp only [Act.put, List.setIfInBounds_toArray, List.set_cons_zero, List.set_cons_succ])))
    refine seq_done ?_
    go_wp2
    go_end0
    exact ⟨rfl, HT1.out.drew, HK1.out.drew⟩
  · rw [if_neg h0]
    clear h0
    go_enter Tryz.func103, Tryz.ntmps103
    go_wp2_with fail
    refine wp_region_seqS ((fun w' => IsTk w' b k)) ((0, true) :: (1, true) :: (2, true) :: (3, true) :: (4, true) :: (5, true) :: (6, true) :: (7, true) :: (8, true) :: (9, true) :: []) (by kernel_rfl) (by kernel_rfl) (by kernel_rfl) (by decide) (fun _ _ _ _ _ h => h) (HT.out.drew) ?_
    repeat (first | (refine seq_take (v := ?_) rfl ?_ ?_ ?_; rotate_left 1; rfl; (focus (intro wS hSw; obtain ⟨s0, s1, s2, s3, s4, s5, s6, s7, s8, s9, sf⟩ := hSw; go_simp; first | done | with_reducible rfl)); (try simp only [Act.put, List.setIfInBounds_toArray, List.set_cons_zero, List.set_cons_succ])) | (refine seq_skip rfl ?_ ?_; rfl; (try simp only [Act.put, List.setIfInBounds_toArray, List.set_cons_zero, List.set_cons_succ])))
    refine seq_done ?_
    go_wp2
    go_end0
    exact ⟨rfl, HT.out.drew, (Keep.refl _ _).drew⟩

set_option maxHeartbeats 2000000 in
theorem time_fin (u : Int) (hso : k.so = 3 ∨ (k.so = 4 ∧ k.d < k.steps)) (hT : IsTk w b k) :
    Calls Tryz.prog 103 #[pt b, i64 u] w fun r w' => r = .returned (.tuple #[]) ∧ IsTk w' b (fin { k with seen := if k.steps = 0 then u else k.seen } (if k.steps = 0 then u else k.seen) u) ∧ Keep (· = b) w w' := by
  obtain ⟨s0, s1, s2, s3, s4, s5, s6, s7, s8, s9, sf⟩ := id hT
  have f6 := sf 6
  clear sf
  have HT := Lib.hid hT
  clear hT
  have h2 : ((k.steps == 0) = true ∧ k.steps = 0) ∨ ((k.steps == 0) = false ∧ ¬ k.steps = 0) := by
    by_cases h : k.steps = 0
    · exact .inl ⟨by simp [h], h⟩
    · exact .inr ⟨by simp [h], h⟩
  have h3 : ((k.so == 4) = false ∧ (k.so == 3) = true ∧ k.so = 3) ∨ ((k.so == 4) = true ∧ (k.so == 3) = false ∧ ¬ (k.steps ≤ k.d)) := by
    rcases hso with h | ⟨h, h'⟩
    · exact .inl ⟨by simp [h], by simp [h], h⟩
    · exact .inr ⟨by simp [h], by simp [h], by omega⟩
  clear hso
  rcases h3 with ⟨q4, q3, h4⟩ | ⟨q4, q3, hst⟩
  · clear h4
    rcases h2 with ⟨q0, h0⟩ | ⟨q0, h0⟩
    · rw [if_pos h0]
      clear h0
      go_enter Tryz.func103, Tryz.ntmps103
      go_wp2_with fail
      have HT1 := Lib.hid (setTk HT.out (k' := { k with seen := u }) 6 (.int .i64 u) rfl)
      have HK1 : Hid (Keep (· = b) w (w.setCell ⟨b, 6, none⟩ (.int .i64 u))) := (Keep.refl _ _).own 6 _
      refine (finish_any _ b _ _ _ HT1.out).mono ?_
      rintro r w4 ⟨⟨g, rfl⟩, hT4, hK4⟩
      go_wp2
      go_end0
      exact ⟨rfl, hT4, HK1.out.trans hK4⟩
    · rw [if_neg h0]
      clear h0
      go_enter Tryz.func103, Tryz.ntmps103
      go_wp2_with fail
      refine (finish_any _ b _ _ _ HT.out).mono ?_
      rintro r w4 ⟨⟨g, rfl⟩, hT4, hK4⟩
      go_wp2
      go_end0
      exact ⟨rfl, hT4, hK4⟩
  · rcases h2 with ⟨q0, h0⟩ | ⟨q0, h0⟩
    · rw [if_pos h0]
      clear h0
      go_enter Tryz.func103, Tryz.ntmps103
      go_wp2_with fail
      have hT1 := setTk HT.out (k' := { k with seen := u }) 6 (.int .i64 u) rfl
      have HT1 := Lib.hid hT1
      have HK1 : Hid (Keep (· = b) w (w.setCell ⟨b, 6, none⟩ (.int .i64 u))) := (Keep.refl _ _).own 6 _
      clear s0 s1 s2 s3 s4 s5 s6 s7 s8 s9 f6
      obtain ⟨s0, s1, s2, s3, s4, s5, s6, s7, s8, s9, sf⟩ := id hT1
      clear sf hT1
      refine wp_region_seqS ((fun w' => IsTk w' b { k with seen := u })) ((0, true) :: (1, true) :: (2, true) :: (3, true) :: (4, true) :: (5, true) :: (6, true) :: (7, true) :: (8, true) :: (9, true) :: []) (by kernel_rfl) (by kernel_rfl) (by kernel_rfl) (by decide) (fun _ _ _ _ _ h => h) (HT1.out.drew) ?_
      clear s0 s1 s2 s3 s4 s5 s6 s7 s8 s9
      repeat (first | (refine seq_take (v := ?_) rfl ?_ ?_ ?_; rotate_left 1; rfl; (focus (intro wS hSw; obtain ⟨s0, s1, s2, s3, s4, s5, s6, s7, s8, s9, sf⟩ := hSw; go_simp; first | done | with_reducible rfl)); (try simp only [Act.put, List.setIfInBounds_toArray, List.set_cons_zero, List.set_cons_succ])) | (refine seq_skip rfl ?_ ?_; rfl; (try simp only [Act.put, List.setIfInBounds_toArray, List.set_cons_zero, List.set_cons_succ])))
      refine seq_done ?_
      obtain ⟨s0, s1, s2, s3, s4, s5, s6, s7, s8, s9, sf⟩ := id HT1.out.drew
      clear sf
      go_wp2_with fail
      refine (finish_any _ b _ _ _ HT1.out.drew).mono ?_
      rintro r w4 ⟨⟨g, rfl⟩, hT4, hK4⟩
      go_wp2
      go_end0
      exact ⟨rfl, hT4, HK1.out.drew.trans hK4⟩
    · rw [if_neg h0]
      clear h0
      go_enter Tryz.func103, Tryz.ntmps103
      go_wp2_with fail
      refine wp_region_seqS ((fun w' => IsTk w' b k)) ((0, true) :: (1, true) :: (2, true) :: (3, true) :: (4, true) :: (5, true) :: (6, true) :: (7, true) :: (8, true) :: (9, true) :: []) (by kernel_rfl) (by kernel_rfl) (by kernel_rfl) (by decide) (fun _ _ _ _ _ h => h) (HT.out.drew) ?_
      clear s0 s1 s2 s3 s4 s5 s6 s7 s8 s9
      repeat (first | (refine seq_take (v := ?_) rfl ?_ ?_ ?_; rotate_left 1; rfl; (focus (intro wS hSw; obtain ⟨s0, s1, s2, s3, s4, s5, s6, s7, s8, s9, sf⟩ := hSw; go_simp; first | done | with_reducible rfl)); (try simp only [Act.put, List.setIfInBounds_toArray, List.set_cons_zero, List.set_cons_succ])) | (refine seq_skip rfl ?_ ?_; rfl; (try simp only [Act.put, List.setIfInBounds_toArray, List.set_cons_zero, List.set_cons_succ])))
      refine seq_done ?_
      obtain ⟨s0, s1, s2, s3, s4, s5, s6, s7, s8, s9, sf⟩ := id HT.out.drew
      clear sf
      go_wp2_with fail
      refine (finish_any _ b _ _ _ HT.out.drew).mono ?_
      rintro r w4 ⟨⟨g, rfl⟩, hT4, hK4⟩
      go_wp2
      go_end0
      exact ⟨rfl, hT4, (Keep.refl _ _).drew.trans hK4⟩
end
end

section
open Go.RowKit
set_option linter.unusedVariables false

theorem fin_steps (k : Tk) (x y : Int) : (fin k x y).steps = k.steps := by unfold fin; split <;> rfl

section
variable (base : Nat) (w : World) (b p c : Nat) (v : Value) (C : List Int) (L : List Ev) (k : Tk) (nb : Nat) (n : Int)

set_option maxHeartbeats 2000000 in
theorem step_s0 (now : Int) (k1 : Tk) (C1 : List Int) (L1 : List Ev) (hk : k1.steps = k.steps) (hs0 : 0 ≤ k.steps) (hs1 : k.steps ≤ 1000000) (hp : k.ph = 0) (hso : k.so = 0) (hT : IsTk w b k)
    (hin : Calls Tryz.prog 100 #[pt b, pt p] w (TickPost base w b p c v k1 C1 L1 (.returned (.tuple #[])))) :
    Calls Tryz.prog 85 #[pt b, pt p, i64 now] w (TickPost base w b p c v { k1 with steps := k.steps + 1 } C1 L1 (.returned (i64 k1.ph))) := by
  have qp : (k.ph != 0) = false := by simp [hp]
  have q0 : (k.so == 0) = true := by simp [hso]
  have q1 : (k.so == 1) = false := by simp [hso]
  have q2 : (k.so == 2) = false := by simp [hso]
  have q3 : (k.so == 3) = false := by simp [hso]
  have q4 : (k.so == 4) = false := by simp [hso]
  have HIN := Lib.hid hin
  have Hk := Lib.hid hk
  clear hin hk hso hp
  obtain ⟨s0, s1, s2, s3, s4, s5, s6, s7, s8, s9, sf⟩ := id hT
  clear sf hT
  go_enter Tryz.func85, Tryz.ntmps85
  go_wp2_with fail
  refine HIN.out.mono ?_
  rintro r w1 ⟨rfl, v1, hS⟩
  have HS := Lib.hid hS
  obtain ⟨t0, t1, t2, t3, t4, t5, t6, t7, t8, t9, tf⟩ := id hS.tk
  rw [Hk.out] at t5
  have f5 := tf 5
  clear tf hS s0 s1 s2 s3 s4 s5 s6 s7 s8 s9
  go_wp2
  go_ret
  exact ⟨rfl, _, HS.out.own (setTk HS.out.tk (k' := { k1 with steps := k.steps + 1 }) 5 (.int .i64 (k.steps + 1)) rfl) ((Keep.refl _ _).own 5 _)⟩

set_option maxHeartbeats 2000000 in
theorem step_s1 (now : Int) (k1 : Tk) (C1 : List Int) (L1 : List Ev) (hk : k1.steps = k.steps) (hs0 : 0 ≤ k.steps) (hs1 : k.steps ≤ 1000000) (hp : k.ph = 0) (hso : k.so = 1) (hT : IsTk w b k)
    (hin : Calls Tryz.prog 101 #[pt b, pt p] w (TickPost base w b p c v k1 C1 L1 (.returned (.tuple #[])))) :
    Calls Tryz.prog 85 #[pt b, pt p, i64 now] w (TickPost base w b p c v { k1 with steps := k.steps + 1 } C1 L1 (.returned (i64 k1.ph))) := by
  have qp : (k.ph != 0) = false := by simp [hp]
  have q0 : (k.so == 0) = false := by simp [hso]
  have q1 : (k.so == 1) = true := by simp [hso]
  have q2 : (k.so == 2) = false := by simp [hso]
  have q3 : (k.so == 3) = false := by simp [hso]
  have q4 : (k.so == 4) = false := by simp [hso]
  have HIN := Lib.hid hin
  have Hk := Lib.hid hk
  clear hin hk hso hp
  obtain ⟨s0, s1, s2, s3, s4, s5, s6, s7, s8, s9, sf⟩ := id hT
  clear sf hT
  go_enter Tryz.func85, Tryz.ntmps85
  go_wp2_with fail
  refine HIN.out.mono ?_
  rintro r w1 ⟨rfl, v1, hS⟩
  have HS := Lib.hid hS
  obtain ⟨t0, t1, t2, t3, t4, t5, t6, t7, t8, t9, tf⟩ := id hS.tk
  rw [Hk.out] at t5
  have f5 := tf 5
  clear tf hS s0 s1 s2 s3 s4 s5 s6 s7 s8 s9
  go_wp2
  go_ret
  exact ⟨rfl, _, HS.out.own (setTk HS.out.tk (k' := { k1 with steps := k.steps + 1 }) 5 (.int .i64 (k.steps + 1)) rfl) ((Keep.refl _ _).own 5 _)⟩

set_option maxHeartbeats 2000000 in
theorem step_s2 (now : Int) (k1 : Tk) (C1 : List Int) (L1 : List Ev) (hk : k1.steps = k.steps) (hs0 : 0 ≤ k.steps) (hs1 : k.steps ≤ 1000000) (hp : k.ph = 0) (hso : k.so = 2) (hT : IsTk w b k)
    (hin : Calls Tryz.prog 102 #[pt b, pt p] w (TickPost base w b p c v k1 C1 L1 (.returned (.tuple #[])))) :
    Calls Tryz.prog 85 #[pt b, pt p, i64 now] w (TickPost base w b p c v { k1 with steps := k.steps + 1 } C1 L1 (.returned (i64 k1.ph))) := by
  have qp : (k.ph != 0) = false := by simp [hp]
  have q0 : (k.so == 0) = false := by simp [hso]
  have q1 : (k.so == 1) = false := by simp [hso]
  have q2 : (k.so == 2) = true := by simp [hso]
  have q3 : (k.so == 3) = false := by simp [hso]
  have q4 : (k.so == 4) = false := by simp [hso]
  have HIN := Lib.hid hin
  have Hk := Lib.hid hk
  clear hin hk hso hp
  obtain ⟨s0, s1, s2, s3, s4, s5, s6, s7, s8, s9, sf⟩ := id hT
  clear sf hT
  go_enter Tryz.func85, Tryz.ntmps85
  go_wp2_with fail
  refine HIN.out.mono ?_
  rintro r w1 ⟨rfl, v1, hS⟩
  have HS := Lib.hid hS
  obtain ⟨t0, t1, t2, t3, t4, t5, t6, t7, t8, t9, tf⟩ := id hS.tk
  rw [Hk.out] at t5
  have f5 := tf 5
  clear tf hS s0 s1 s2 s3 s4 s5 s6 s7 s8 s9
  go_wp2
  go_ret
  exact ⟨rfl, _, HS.out.own (setTk HS.out.tk (k' := { k1 with steps := k.steps + 1 }) 5 (.int .i64 (k.steps + 1)) rfl) ((Keep.refl _ _).own 5 _)⟩

set_option maxHeartbeats 2000000 in
theorem step_rest (now : Int) (hp : k.ph ≠ 0) (hT : IsTk w b k) (hM : IsMem base w p c v C L) (ha : ¬ Foot p c v b) (hb : base ≤ w.heap.size) :
    Calls Tryz.prog 85 #[pt b, pt p, i64 now] w (TickPost base w b p c v k C L (.returned (i64 k.ph))) := by
  have qp : (k.ph != 0) = true := by simp [hp]
  have HS := Lib.hid (Stepped.refl hT hM ha hb)
  clear hp hM ha
  obtain ⟨s0, s1, s2, s3, s4, s5, s6, s7, s8, s9, sf⟩ := id hT
  clear sf hT
  go_enter Tryz.func85, Tryz.ntmps85
  go_wp2
  go_ret
  exact ⟨rfl, _, HS.out⟩

set_option maxHeartbeats 2000000 in
theorem step_time (now : Int) (k1 : Tk) (hk : k1.steps = k.steps) (hs0 : 0 ≤ k.steps) (hs1 : k.steps ≤ 1000000) (hp : k.ph = 0) (hso : k.so = 3 ∨ k.so = 4) (hT : IsTk w b k) (hM : IsMem base w p c v C L) (ha : ¬ Foot p c v b) (hb : base ≤ w.heap.size)
    (hin : Calls Tryz.prog 103 #[pt b, i64 (low now)] w fun r w' => r = .returned (.tuple #[]) ∧ IsTk w' b k1 ∧ Keep (· = b) w w') :
    Calls Tryz.prog 85 #[pt b, pt p, i64 now] w (TickPost base w b p c v { k1 with steps := k.steps + 1 } C L (.returned (i64 k1.ph))) := by
  have qp : (k.ph != 0) = false := by simp [hp]
  have HS := Lib.hid (Stepped.refl hT hM ha hb)
  have HIN := Lib.hid hin
  have Hk := Lib.hid hk
  have q0 : (k.so == 0) = false := by simp; omega
  have q1 : (k.so == 1) = false := by simp; omega
  have q2 : (k.so == 2) = false := by simp; omega
  have h3 : ((k.so == 4) = false ∧ (k.so == 3) = true) ∨ ((k.so == 4) = true ∧ (k.so == 3) = false) := by
    rcases hso with h | h
    · exact .inl ⟨by simp [h], by simp [h]⟩
    · exact .inr ⟨by simp [h], by simp [h]⟩
  clear hin hk hso hp hM ha
  obtain ⟨s0, s1, s2, s3, s4, s5, s6, s7, s8, s9, sf⟩ := id hT
  clear sf hT
  have hlow : (now ≤ 16777215 ∧ low now = now) ∨ (16777215 < now ∧ low now = 16777215) := by unfold low; omega
  rcases h3 with ⟨q4, q3⟩ | ⟨q4, q3⟩
  all_goals
    rcases hlow with ⟨hn, hl⟩ | ⟨hn, hl⟩
    all_goals
      rw [hl] at HIN
      clear hl
      go_enter Tryz.func85, Tryz.ntmps85
      go_wp2_with fail
      refine HIN.out.mono ?_
      rintro r w1 ⟨rfl, hT1, hK1⟩
      have HS1 := Lib.hid (HS.out.own hT1 hK1)
      obtain ⟨t0, t1, t2, t3, t4, t5, t6, t7, t8, t9, tf⟩ := id hT1
      rw [Hk.out] at t5
      have f5 := tf 5
      clear tf hT1 hK1 s0 s1 s2 s3 s4 s5 s6 s7 s8 s9
      go_wp2
      go_ret
      exact ⟨rfl, _, HS1.out.own (setTk HS1.out.tk (k' := { k1 with steps := k.steps + 1 }) 5 (.int .i64 (k.steps + 1)) rfl) ((Keep.refl _ _).own 5 _)⟩

set_option maxHeartbeats 1000000 in
theorem phase_any (hT : IsTk w b k) : Calls Tryz.prog 161 #[pt b] w fun r w' => r = .returned (i64 k.ph) ∧ w = w' := by
  obtain ⟨s0, s1, s2, s3, s4, s5, s6, s7, s8, s9, sf⟩ := hT
  clear sf
  go_enter Tryz.func161, Tryz.ntmps161
  go_wp2
  go_ret
  exact ⟨rfl, rfl⟩

set_option maxHeartbeats 1000000 in
theorem stamp_any (hT : IsTk w b k) : Calls Tryz.prog 91 #[pt b] w fun r w' => r = .returned (st k.lo k.hi) ∧ Below w.heap.size w w' := by
  have hlt := hT.lt
  obtain ⟨s0, s1, s2, s3, s4, s5, s6, s7, s8, s9, sf⟩ := hT
  clear sf
  go_enter Tryz.func91, Tryz.ntmps91
  go_wp2
  exact bodyPost_ret (v := st k.lo k.hi) (by simp [results, Tryz.results91, go_sem]) rfl ⟨rfl, below_new (Below.refl _ _) _⟩

/-- A stamp that is begun. -/
def tk0 (t s so d who : Int) : Tk := ⟨t, s, so, d, who, 0, 0, 0, 0, 0⟩

set_option maxHeartbeats 1000000 in
theorem tnew_any (t s so d who : Int) : Calls Tryz.prog 81 #[cf t s so d, i64 who] w fun r w' => ∃ b, r = .returned (pt b) ∧ IsTk w' b (tk0 t s so d who) ∧ Below w.heap.size w w' ∧ w.heap.size ≤ b := by
  go_enter Tryz.func81, Tryz.ntmps81
  go_wp2
  go_ret
  refine ⟨w.heap.size + 1, rfl, ?_, below_new (below_new (Below.refl _ _) _) _, by omega⟩
  have h := fun i => World.cell?_alloc_new (w.alloc (.cells #[.int .i64 t, .int .i64 s, .int .i64 so, .int .i64 d] 24)) #[.int .i64 t, .int .i64 s, .int .i64 so, .int .i64 d, i64 who, .int .i64 0, .int .i64 0, .int .i64 0, .int .i64 0, .int .i64 0] 169 i
  rw [show (w.alloc (.cells #[.int .i64 t, .int .i64 s, .int .i64 so, .int .i64 d] 24)).heap.size = w.heap.size + 1 by simp] at h
  exact ⟨h 0, h 1, h 2, h 3, h 4, h 5, h 6, h 7, h 8, h 9, fun o => World.frozen?_alloc_at _ _ _ _ (by simp)⟩

/-- How many steps at most. -/
def most (t so d : Int) : Int := if so = 0 then 1 else if so = 1 then t + 1 else if so = 2 then 4 else if so = 3 then 1 else d + 2

theorem getD_at {C : List Int} {i : Nat} (h : i < C.length) : C[i]? = some (C.getD i 0) := by
  rw [List.getD_eq_getElem?_getD, List.getElem?_eq_getElem h]
  rfl

theorem fin_with (k : Tk) (m x y : Int) : { fin k x y with steps := m } = fin { k with steps := m } x y := by unfold fin; split <;> rfl
theorem fin_ph (k : Tk) (m x y : Int) : (fin k x y).ph = (fin { k with steps := m } x y).ph := by unfold fin; split <;> rfl

theorem step_fit {F : FuncId} {args : Array Value} {k1 k2 : Tk} {C1 C2 : List Int} {L1 L2 : List Ev} {q : Int} (h : Calls Tryz.prog F args w (TickPost base w b p c v k1 C1 L1 (.returned (i64 q)))) (hk : k1 = k2) (hq : q = k2.ph) (hC : C1 = C2) (hL : L1 = L2) :
    Calls Tryz.prog F args w (TickPost base w b p c v k2 C2 L2 (.returned (i64 k2.ph))) := by
  subst hk hq hC hL
  exact h

/-- A step does what 'stp' says. -/
theorem step_any (now : Int) (hk : k.Ok nb n C) (n0 : 0 ≤ now) (hT : IsTk w b k) (hM : IsMem base w p c v C L) (ha : ¬ Foot p c v b) (hb : base ≤ w.heap.size) (hL : L.length < 1000000000) :
    Calls Tryz.prog 85 #[pt b, pt p, i64 now] w (TickPost base w b p c v (stp nb k C now).1 (stp nb k C now).2.1 (L ++ (stp nb k C now).2.2.toList) (.returned (i64 (stp nb k C now).1.ph))) := by
  obtain ⟨hl, hnt, hlen, w0, w1, s0, s1, e0, e1, o0, o1, d0, d1, p0, p1, h2⟩ := hk
  have ht1 := hl.t1
  have hx0 : C[nb]? = some (C.getD nb 0) := getD_at (by omega)
  unfold stp
  by_cases hp : k.ph = 0
  · rw [if_pos hp]
    rcases (by omega : k.so = 0 ∨ k.so = 1 ∨ k.so = 2 ∨ (k.so = 3 ∨ k.so = 4)) with h | h | h | h
    · rw [if_pos h]
      exact step_fit base w b p c v (step_s0 base w b p c v k now _ _ _ (fin_steps _ _ _) s0 s1 hp h hT (count_tick base w b p c v C L k nb n _ hT hM ha hl hnt hx0 hb hL)) (fin_with _ _ _ _) (fin_ph _ _ _ _) rfl rfl
    · rw [if_neg (by omega), if_pos h]
      by_cases hlt : k.steps < k.t
      · rw [if_pos hlt]
        have hj : k.steps = (k.steps.toNat : Int) := by omega
        exact step_fit base w b p c v (step_s1 base w b p c v k now _ _ _ (by exact rfl) s0 s1 hp h hT (stutter_load base w b p c v C L k nb n _ _ hj hlt hT hM ha hl hnt (getD_at (by omega)) hb hL)) rfl rfl rfl rfl
      · rw [if_neg hlt]
        by_cases hf : k.seen + 1 < 16777215
        · rw [if_pos hf]
          have hj : k.who = (k.who.toNat : Int) := by omega
          exact step_fit base w b p c v (step_s1 base w b p c v k now _ _ _ (by exact rfl) s0 s1 hp h hT (stutter_done base w b p c v C L k nb n _ _ hj w1 (by omega) e0 hf hT hM ha hl hnt (getD_at (by omega)) hb hL)) rfl rfl rfl rfl
        · rw [if_neg hf]
          exact step_fit base w b p c v (step_s1 base w b p c v k now _ _ _ (by exact rfl) s0 s1 hp h hT (stutter_full base w b p c v C L k (by omega) e0 e1 (by omega) hT hM ha hb)) rfl rfl rfl (List.append_nil _).symm
    · rw [if_neg (by omega), if_neg (by omega), if_pos h]
      by_cases h0 : k.steps = 0
      · rw [if_pos h0]
        exact step_fit base w b p c v (step_s2 base w b p c v k now _ _ _ (by exact rfl) s0 s1 hp h hT (swap_0 base w b p c v C L k nb n _ h0 hT hM ha hl hnt hx0 hb hL hp)) rfl rfl rfl rfl
      · rw [if_neg h0]
        by_cases h1 : k.steps = 1
        · rw [if_pos h1]
          refine step_fit base w b p c v (step_s2 base w b p c v k now _ _ _ ?_ s0 s1 hp h hT (swap_1 base w b p c v C L k nb n _ h1 hT hM ha hl hnt hx0 hb hL)) ?_ ?_ rfl rfl
          · split
            · rfl
            · exact fin_steps _ _ _
          · show _ = if low (C.getD nb 0) = k.seen then _ else _
            split
            · rfl
            · exact fin_with _ _ _ _
          · show _ = Tk.ph (if low (C.getD nb 0) = k.seen then _ else _)
            split
            · rfl
            · exact fin_ph _ _ _ _
        · rw [if_neg h1]
          by_cases h3 : k.steps = 2
          · rw [if_pos h3]
            have hs := h2 h (by omega) hp
            by_cases hx : C.getD nb 0 = k.seen
            · rw [if_pos hx]
              exact step_fit base w b p c v (step_s2 base w b p c v k now _ _ _ (fin_steps _ _ _) s0 s1 hp h hT (swap_2y base w b p c v C L k nb n _ h3 hx hs hT hM ha hl hnt hx0 hb hL)) (fin_with _ _ _ _) (fin_ph _ _ _ _) rfl rfl
            · rw [if_neg hx]
              exact step_fit base w b p c v (step_s2 base w b p c v k now _ _ _ (by exact rfl) s0 s1 hp h hT (swap_2n base w b p c v C L k nb n _ h3 hx e0 hs hT hM ha hl hnt hx0 hb hL)) rfl rfl rfl rfl
          · rw [if_neg h3]
            exact step_fit base w b p c v (step_s2 base w b p c v k now _ _ _ (fin_steps _ _ _) s0 s1 hp h hT (swap_3 base w b p c v C L k nb n _ (by omega) hT hM ha hl hnt hx0 hb hL)) (fin_with _ _ _ _) (fin_ph _ _ _ _) rfl rfl
    · rw [if_neg (by omega), if_neg (by omega), if_neg (by omega)]
      by_cases hf : k.so = 3 ∨ k.d < k.steps
      · rw [if_pos hf]
        exact step_fit base w b p c v (step_time base w b p c v C L k now _ (by exact fin_steps _ _ _) s0 s1 hp h hT hM ha hb (time_fin w b k (low now) (by omega) hT)) (fin_with _ _ _ _) (fin_ph _ _ _ _) rfl (List.append_nil _).symm
      · rw [if_neg hf]
        exact step_fit base w b p c v (step_time base w b p c v C L k now _ (by exact rfl) s0 s1 hp h hT hM ha hb (time_go w b k (low now) (by omega) (by omega) hT)) rfl rfl rfl (List.append_nil _).symm
  · rw [if_neg hp]
    exact step_fit base w b p c v (step_rest base w b p c v C L k now hp hT hM ha hb) rfl rfl rfl (List.append_nil _).symm
end
end

section
open Go.RowKit
set_option linter.unusedVariables false

/-- A layout, right and small. -/
def ConfPost (w : World) (r : Ending) (w' : World) : Prop := ∃ t so d : Int, r = .returned (cf t 1 so d) ∧ 1 ≤ t ∧ t ≤ 4 ∧ 0 ≤ so ∧ so ≤ 4 ∧ 0 ≤ d ∧ d ≤ 3 ∧ Below w.heap.size w w'

set_option maxHeartbeats 1000000 in
theorem conf_at (a0 a2 a3 : Int) (w : World) :
    Calls Tryz.prog 23 #[.int .i64 a0, .int .i64 0, .int .i64 a2, .int .i64 a3] w fun r w' => r = .returned (cf (1 + a0 % 4) 1 (wrap64 ((IntKind.u64.wrap a2).tmod 5)) (a3 % 4)) ∧ Below w.heap.size w w' := by
  have e0 : bits .and .i64 a0 3 = a0 % 4 := by rw [show (3 : Int) = ((3 : Nat) : Int) from rfl, and_i64 a0 3 2 rfl (by decide)]; rfl
  have e3 : bits .and .i64 a3 3 = a3 % 4 := by rw [show (3 : Int) = ((3 : Nat) : Int) from rfl, and_i64 a3 3 2 rfl (by decide)]; rfl
  have ez : bits .and .i64 0 3 = 0 := by decide
  go_enter Tryz.func23, Tryz.ntmps23
  go_wp2
  exact bodyPost_ret (v := cf (1 + a0 % 4) 1 (wrap64 ((IntKind.u64.wrap a2).tmod 5)) (a3 % 4)) (by simp [results, Tryz.results23, go_sem]) rfl ⟨rfl, below_new (Below.refl _ _) _⟩

theorem src5 (a : Int) : 0 ≤ wrap64 ((IntKind.u64.wrap a).tmod 5) ∧ wrap64 ((IntKind.u64.wrap a).tmod 5) ≤ 4 := by
  have h0 : 0 ≤ IntKind.u64.wrap a := by rw [IntKind.wrap_u64]; omega
  rw [Int.tmod_eq_emod_of_nonneg h0]
  unfold wrap64
  omega
theorem src3 (a : Int) (h0 : 0 ≤ a) (h2 : a ≤ 2) : wrap64 ((IntKind.u64.wrap a).tmod 5) = a := by
  have h1 : IntKind.u64.wrap a = a := by rw [IntKind.wrap_u64]; omega
  rw [h1, Int.tmod_eq_emod_of_nonneg h0]
  unfold wrap64
  omega

theorem conf_any (a0 a2 a3 : Int) (w : World) :
    Calls Tryz.prog 23 #[.int .i64 a0, .int .i64 0, .int .i64 a2, .int .i64 a3] w (ConfPost w) :=
  (conf_at a0 a2 a3 w).mono fun r w' ⟨h, hb⟩ => ⟨_, _, _, h, by omega, by omega, (src5 a2).1, (src5 a2).2, by omega, by omega, hb⟩

/-- A stamp that is right, or none. -/
def madeV (x y : Int) : Value := if 0 ≤ x ∧ x ≤ y ∧ y < 16777215 then .tuple #[st x y, i64 1] else .tuple #[st 0 0, i64 2]

theorem lay21 : Lay 2 1 2 := ⟨rfl, by omega, by omega, by omega, by omega, by omega, by omega, by omega⟩

theorem Own.stepT {w0 w w' : World} {b p c : Nat} {v v' : Value} {k' : Tk} {C C' : List Int} {L L' : List Ev} (h : Own w0 w p c v C L) (s : Stepped w0.heap.size w w' b p c v v' k' C' L') (hb : w0.heap.size ≤ b) : Own w0 w' p c v' C' L' :=
  ⟨s.mem, s.size, below_keep h.below s.keep h.size (fun i hi => by
    rcases hi with rfl | hi
    · exact hb
    · exact (h.mem.foot i hi).1)⟩

/-- A layout in a block. -/
structure AtC (w : World) (b : Nat) (t s so d : Int) : Prop where
  c0 : w.cell? ⟨b, 0, none⟩ = some (i64 t)
  c1 : w.cell? ⟨b, 1, none⟩ = some (i64 s)
  c2 : w.cell? ⟨b, 2, none⟩ = some (i64 so)
  c3 : w.cell? ⟨b, 3, none⟩ = some (i64 d)

theorem AtC.keep {w w' : World} {b : Nat} {t s so d : Int} {T : Nat → Prop} (h : AtC w b t s so d) (k : Keep T w w') (hn : ¬ T b) : AtC w' b t s so d :=
  ⟨k.cell h.c0 hn, k.cell h.c1 hn, k.cell h.c2 hn, k.cell h.c3 hn⟩
theorem AtC.later {w w' : World} {b n : Nat} {t s so d : Int} (h : AtC w b t s so d) (k : Below n w w') (hn : b < n) : AtC w' b t s so d :=
  ⟨(k.cell (p := ⟨b, 0, none⟩) hn).trans h.c0, (k.cell (p := ⟨b, 1, none⟩) hn).trans h.c1, (k.cell (p := ⟨b, 2, none⟩) hn).trans h.c2, (k.cell (p := ⟨b, 3, none⟩) hn).trans h.c3⟩
theorem AtC.made (w : World) (t s so d : Int) : AtC (w.alloc (.cells #[.int .i64 t, .int .i64 s, .int .i64 so, .int .i64 d] 24)) w.heap.size t s so d :=
  ⟨World.cell?_alloc_new w _ _ 0, World.cell?_alloc_new w _ _ 1, World.cell?_alloc_new w _ _ 2, World.cell?_alloc_new w _ _ 3⟩

theorem stp_count (nb : Nat) (k : Tk) (C : List Int) (now x : Int) (hp : k.ph = 0) (hso : k.so = 0) (hx : C.getD nb 0 = x) (h0 : 0 ≤ x) (h1 : x < 16777215) :
    stp nb k C now = ({ k with steps := k.steps + 1, ph := 1, lo := x, hi := x }, C.set nb (x + 1), some ⟨k.who, 3, nb, x, x + 1, true⟩) := by
  have hl : low x = x := by unfold low; omega
  have ha : add64 x 1 = x + 1 := by unfold add64; rw [IntKind.wrap_u64]; omega
  unfold stp
  rw [if_pos hp, if_pos hso, hx, hl, ha, fin_yes _ ⟨h0, Int.le_refl _, h1⟩]

/-- What a call itself begun: it shares no block with cells that it made ahead. -/
theorem Own.apart {w0 w : World} {p c : Nat} {v : Value} {C : List Int} {L : List Ev} (h : Own w0 w p c v C L) {b : Nat} (hb : w.heap.size ≤ b) : ¬ Foot p c v b :=
  fun hf => by have := (h.mem.foot b hf).2; omega

theorem getD_set' (C : List Int) (i j : Nat) (x : Int) : (C.set i x).getD j 0 = if i = j ∧ j < C.length then x else C.getD j 0 := by
  rw [List.getD_eq_getElem?_getD, List.getElem?_set, List.getD_eq_getElem?_getD]
  by_cases h : i = j
  · subst h
    by_cases h2 : i < C.length
    · simp [h2]
    · simp [h2]
  · simp [h]

end

section
open Go.RowKit
set_option linter.unusedVariables false

set_option maxHeartbeats 1000000 in
theorem conf2_any (a0 a1 : Int) (w : World) :
    Calls Tryz.prog 23 #[.int .i64 a0, .int .i64 a1, .int .i64 0, .int .i64 0] w fun r w' => ∃ t s : Int, r = .returned (cf t s 0 0) ∧ 1 ≤ t ∧ t ≤ 4 ∧ 1 ≤ s ∧ s ≤ 4 ∧ Below w.heap.size w w' := by
  have e0 : bits .and .i64 a0 3 = a0 % 4 := by rw [show (3 : Int) = ((3 : Nat) : Int) from rfl, and_i64 a0 3 2 rfl (by decide)]; rfl
  have e1 : bits .and .i64 a1 3 = a1 % 4 := by rw [show (3 : Int) = ((3 : Nat) : Int) from rfl, and_i64 a1 3 2 rfl (by decide)]; rfl
  have ez : bits .and .i64 0 3 = 0 := by decide
  go_enter Tryz.func23, Tryz.ntmps23
  go_wp2
  exact bodyPost_ret (v := cf (1 + a0 % 4) (1 + a1 % 4) 0 0) (by simp [results, Tryz.results23, go_sem]) rfl ⟨_, _, rfl, by omega, by omega, by omega, by omega, below_new (Below.refl _ _) _⟩

/-- The cells with which a Claim, or a Snap, begins: a layout, whose it is, and a place. -/
structure AtHead (w : World) (b : Nat) (t s so d who x : Int) : Prop where
  c0 : w.cell? ⟨b, 0, none⟩ = some (i64 t)
  c1 : w.cell? ⟨b, 1, none⟩ = some (i64 s)
  c2 : w.cell? ⟨b, 2, none⟩ = some (i64 so)
  c3 : w.cell? ⟨b, 3, none⟩ = some (i64 d)
  c4 : w.cell? ⟨b, 4, none⟩ = some (i64 who)
  c5 : w.cell? ⟨b, 5, none⟩ = some (i64 x)

/-- A claim under way. -/
structure Cl where
  t : Int
  s : Int
  so : Int
  d : Int
  who : Int
  slot : Int
  steps : Int
  ws : Int
  we : Int
  wg : Int
  wl : Int
  wh : Int
  ph : Int

abbrev Cl.list (k : Cl) : List Value := [i64 k.t, i64 k.s, i64 k.so, i64 k.d, i64 k.who, i64 k.slot, i64 k.steps, i64 k.ws, i64 k.we, i64 k.wg, i64 k.wl, i64 k.wh, i64 k.ph]

structure AtCl (w : World) (b : Nat) (k : Cl) : Prop where
  c0 : w.cell? ⟨b, 0, none⟩ = some (i64 k.t)
  c1 : w.cell? ⟨b, 1, none⟩ = some (i64 k.s)
  c2 : w.cell? ⟨b, 2, none⟩ = some (i64 k.so)
  c3 : w.cell? ⟨b, 3, none⟩ = some (i64 k.d)
  c4 : w.cell? ⟨b, 4, none⟩ = some (i64 k.who)
  c5 : w.cell? ⟨b, 5, none⟩ = some (i64 k.slot)
  c6 : w.cell? ⟨b, 6, none⟩ = some (i64 k.steps)
  c7 : w.cell? ⟨b, 7, none⟩ = some (i64 k.ws)
  c8 : w.cell? ⟨b, 8, none⟩ = some (i64 k.we)
  c9 : w.cell? ⟨b, 9, none⟩ = some (i64 k.wg)
  c10 : w.cell? ⟨b, 10, none⟩ = some (i64 k.wl)
  c11 : w.cell? ⟨b, 11, none⟩ = some (i64 k.wh)
  c12 : w.cell? ⟨b, 12, none⟩ = some (i64 k.ph)

theorem IsObj.cl {w : World} {b : Nat} {k : Cl} (h : IsObj w b k.list) : AtCl w b k :=
  ⟨h.at' 0 _ rfl, h.at' 1 _ rfl, h.at' 2 _ rfl, h.at' 3 _ rfl, h.at' 4 _ rfl, h.at' 5 _ rfl, h.at' 6 _ rfl, h.at' 7 _ rfl, h.at' 8 _ rfl, h.at' 9 _ rfl, h.at' 10 _ rfl, h.at' 11 _ rfl, h.at' 12 _ rfl⟩
theorem IsObj.head {w : World} {b : Nat} {t s so d who x : Int} {l : List Value} (h : IsObj w b (i64 t :: i64 s :: i64 so :: i64 d :: i64 who :: i64 x :: l)) : AtHead w b t s so d who x :=
  ⟨h.at' 0 _ rfl, h.at' 1 _ rfl, h.at' 2 _ rfl, h.at' 3 _ rfl, h.at' 4 _ rfl, h.at' 5 _ rfl⟩

/-- What a place says of itself is kept. -/
def Cl.word (k : Cl) (x : Int) : Cl := { k with ws := x % 4, we := x / 4 % 2, wg := x / 8 % 8192, wl := x / 65536 % 16777216, wh := x / 1099511627776 }
/-- On to the next place; m is the thread's first one. -/
def Cl.pass (k : Cl) (m : Int) : Cl := if k.slot = m + k.s - 1 then { k with ph := 2 } else { k with slot := k.slot + 1, steps := 0 }
def Cl.look (k : Cl) (m x : Int) : Cl := if x / 8 % 8192 = 8191 then (k.word x).pass m else if x % 4 = 0 then { k.word x with ph := 1 } else if x % 4 = 2 then { k.word x with steps := 1 } else (k.word x).pass m
def Cl.guard (k : Cl) (m x : Int) : Cl := if x = k.slot + 1 then k.pass m else if k.steps = k.t then { k with ph := 1 } else { k with steps := k.steps + 1 }
/-- The cell that is read next; hz is the first thread's hazard. -/
def Cl.cell (k : Cl) (hz : Nat) : Nat := if k.steps = 0 then k.slot.toNat else hz + (k.steps - 1).toNat
/-- A step. -/
def Cl.step (k : Cl) (m : Int) (hz : Nat) (C : List Int) : Cl := if k.ph = 0 then if k.steps = 0 then k.look m (C.getD (k.cell hz) 0) else k.guard m (C.getD (k.cell hz) 0) else k
def Cl.ev (k : Cl) (hz : Nat) (C : List Int) : List Ev := if k.ph = 0 then [⟨k.who, 0, (k.cell hz : Nat), C.getD (k.cell hz) 0, C.getD (k.cell hz) 0, true⟩] else []

/-- What may be in it. -/
structure Cl.Ok (k : Cl) (n m : Int) (hz : Nat) (C : List Int) : Prop where
  lay : Lay k.t k.s n
  hz : (hz : Int) = 2 * n
  len : (C.length : Int) = 2 * n + 2 * k.t
  w0 : 0 ≤ k.who
  w1 : k.who < k.t
  hm : k.who * k.s = m
  m0 : 0 ≤ m
  m1 : m + k.s ≤ n
  s0 : m ≤ k.slot
  s1 : k.slot < m + k.s
  g0 : 0 ≤ k.steps
  g1 : k.steps ≤ k.t

set_option maxHeartbeats 2000000 in
theorem pass_any (w : World) (b : Nat) (k : Cl) (n m : Int) (hl : Lay k.t k.s n) (w0 : 0 ≤ k.who) (w1 : k.who < k.t) (hm : k.who * k.s = m) (m0 : 0 ≤ m) (m1 : m + k.s ≤ n) (s0 : m ≤ k.slot) (s1 : k.slot < m + k.s) (hT : IsObj w b k.list) :
    Calls Tryz.prog 114 #[pt b] w fun r w' => r = .returned (.tuple #[]) ∧ IsObj w' b (k.pass m).list ∧ Keep (· = b) w w' := by
  have hn2 := hl.n2
  have hs1 := hl.s1
  have hs2 := hl.s2
  have HT := Lib.hid hT
  have hA : AtHead w.drew b k.t k.s k.so k.d k.who k.slot := hT.drew.head
  have hlt := hT.lt
  have Hm := Lib.hid hm
  have e1 : IntKind.i64.wrap (m + k.s) = m + k.s := IntWalk.i64_in _ (by omega)
  have e2 : IntKind.i64.wrap (m + k.s - 1) = m + k.s - 1 := IntWalk.i64_in _ (by omega)
  clear hT hm
  unfold Cl.pass
  by_cases he : k.slot = m + k.s - 1
  · have q : (k.slot == m + k.s - 1) = true := by simp [he]
    rw [if_pos he]
    clear he
    go_enter Tryz.func114, Tryz.ntmps114
    go_wp2_with fail
    refine wp_region_seqS ((fun w' => AtHead w' b k.t k.s k.so k.d k.who k.slot)) ((0, true) :: (1, true) :: (2, true) :: (3, true) :: (4, true) :: (5, true) :: (6, true) :: (7, true) :: (8, true) :: (9, true) :: (10, true) :: (11, true) :: (13, true) :: (14, true) :: (15, true) :: (16, true) :: (17, true) :: (12, false) :: (18, true) :: (19, true) :: (20, true) :: []) (by kernel_rfl) (by kernel_rfl) (by kernel_rfl) (by decide) (fun _ _ _ _ _ h => h) (hA) ?_
    repeat (first | (refine seq_take (v := ?_) rfl ?_ ?_ ?_; rotate_left 1; rfl; (focus (intro wS hSw; obtain ⟨c0, c1, c2, c3, c4, c5⟩ := hSw; go_simp; first | done | with_reducible rfl)); (try simp only [Act.put, List.setIfInBounds_toArray, List.set_cons_zero, List.set_cons_succ])) | (refine seq_skip rfl ?_ ?_; rfl; (try simp only [Act.put, List.setIfInBounds_toArray, List.set_cons_zero, List.set_cons_succ])))
    refine seq_run rfl (fun K hK => ?_)
    go_simp
    go_at_call 97
    refine (cfirst_any _ _ _ _ n _ m _ hl w0 w1 Hm.out m0 (by omega)).mono ?_
    rintro r w1 ⟨rfl, hb1⟩
    (try go_wp2_with fail)
    have HT1 := Lib.hid (HT.out.drew.later hb1)
    have HB := Lib.hid hb1
    clear hb1
    refine hK.out _ _ (HT1.out.head) (fun _ => ?_)
    (try simp only [Act.put, List.setIfInBounds_toArray, List.set_cons_zero, List.set_cons_succ])
    clear hK K
    repeat (first | (refine seq_take (v := ?_) rfl ?_ ?_ ?_; rotate_left 1; rfl; (focus (intro wS hSw; obtain ⟨c0, c1, c2, c3, c4, c5⟩ := hSw; go_simp; first | done | with_reducible rfl)); (try simp only [Act.put, List.setIfInBounds_toArray, List.set_cons_zero, List.set_cons_succ])) | (refine seq_skip rfl ?_ ?_; rfl; (try simp only [Act.put, List.setIfInBounds_toArray, List.set_cons_zero, List.set_cons_succ])))
    refine seq_done ?_
    obtain ⟨c0, c1, c2, c3, c4, c5, c6, c7, c8, c9, c10, c11, c12⟩ := HT1.out.cl
    have f12 := HT1.out.fz 12
    go_wp2
    refine bodyPost_ret (results_none rfl _ _ _) rfl ?_
    exact ⟨rfl, HT1.out.set 12 (.int .i64 2), ((Keep.refl _ _).drew.trans (Keep.of_below HB.out)).own 12 _⟩
  · have q : (k.slot == m + k.s - 1) = false := by simp [he]
    rw [if_neg he]
    clear he
    go_enter Tryz.func114, Tryz.ntmps114
    go_wp2_with fail
    refine wp_region_seqS ((fun w' => AtHead w' b k.t k.s k.so k.d k.who k.slot)) ((0, true) :: (1, true) :: (2, true) :: (3, true) :: (4, true) :: (5, true) :: (6, true) :: (7, true) :: (8, true) :: (9, true) :: (10, true) :: (11, true) :: (13, true) :: (14, true) :: (15, true) :: (16, true) :: (17, true) :: (12, false) :: (18, true) :: (19, true) :: (20, true) :: []) (by kernel_rfl) (by kernel_rfl) (by kernel_rfl) (by decide) (fun _ _ _ _ _ h => h) (hA) ?_
    repeat (first | (refine seq_take (v := ?_) rfl ?_ ?_ ?_; rotate_left 1; rfl; (focus (intro wS hSw; obtain ⟨c0, c1, c2, c3, c4, c5⟩ := hSw; go_simp; first | done | with_reducible rfl)); (try simp only [Act.put, List.setIfInBounds_toArray, List.set_cons_zero, List.set_cons_succ])) | (refine seq_skip rfl ?_ ?_; rfl; (try simp only [Act.put, List.setIfInBounds_toArray, List.set_cons_zero, List.set_cons_succ])))
    refine seq_run rfl (fun K hK => ?_)
    go_simp
    go_at_call 97
    refine (cfirst_any _ _ _ _ n _ m _ hl w0 w1 Hm.out m0 (by omega)).mono ?_
    rintro r w1 ⟨rfl, hb1⟩
    (try go_wp2_with fail)
    have HT1 := Lib.hid (HT.out.drew.later hb1)
    have HB := Lib.hid hb1
    clear hb1
    refine hK.out _ _ (HT1.out.head) (fun _ => ?_)
    (try simp only [Act.put, List.setIfInBounds_toArray, List.set_cons_zero, List.set_cons_succ])
    clear hK K
    repeat (first | (refine seq_take (v := ?_) rfl ?_ ?_ ?_; rotate_left 1; rfl; (focus (intro wS hSw; obtain ⟨c0, c1, c2, c3, c4, c5⟩ := hSw; go_simp; first | done | with_reducible rfl)); (try simp only [Act.put, List.setIfInBounds_toArray, List.set_cons_zero, List.set_cons_succ])) | (refine seq_skip rfl ?_ ?_; rfl; (try simp only [Act.put, List.setIfInBounds_toArray, List.set_cons_zero, List.set_cons_succ])))
    refine seq_done ?_
    obtain ⟨c0, c1, c2, c3, c4, c5, c6, c7, c8, c9, c10, c11, c12⟩ := HT1.out.cl
    have e3 : wrap64 (k.slot + 1) = k.slot + 1 := by unfold wrap64; omega
    have f5 := HT1.out.fz 5
    have f6 := HT1.out.fz 6
    go_wp2
    go_end0
    exact ⟨rfl, (HT1.out.set 5 (.int .i64 (k.slot + 1))).set 6 (.int .i64 0), (((Keep.refl _ _).drew.trans (Keep.of_below HB.out)).own 5 _).own 6 _⟩

theorem load_at (base : Nat) (w : World) (p c : Nat) (v : Value) (C : List Int) (L : List Ev) (who i : Int) (j : Nat) (x : Int) (hi : i = (j : Int)) (hM : IsMem base w p c v C L) (hx : C[j]? = some x) (hb : base ≤ w.heap.size) (hL : L.length < 1000000000) :
    Calls Tryz.prog 113 #[pt p, i64 who, i64 i] w (MemPost base w p c v C (L ++ [⟨who, 0, j, x, x, true⟩]) (.returned (u64 x))) := by
  subst hi
  exact load_in base w p c v C L who j x hM hx hb hL

/-- What a step of a claim leaves. -/
def ClPost (base : Nat) (w : World) (b p c : Nat) (v : Value) (k' : Cl) (C' : List Int) (L' : List Ev) (e0 : Ending) (e : Ending) (w' : World) : Prop :=
  e = e0 ∧ ∃ v', Does (· = b) base w w' p c v v' C' L' ∧ IsObj w' b k'.list
end

end Go.Proofs.YtpfjommkjkbonaaGreat
