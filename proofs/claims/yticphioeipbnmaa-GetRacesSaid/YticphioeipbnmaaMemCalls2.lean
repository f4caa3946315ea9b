/-
  Contracts of the exported functions of package mem: what each call answers, what the cells are then, and what is noted. No condition but that numbers fit their kinds.
-/
import Derived.Test.YticphioeipbnmaaMemCalls
import Derived.IntWalk
namespace Go.Proofs.Yticphioeipbnmaa
open Go.RowKit
set_option linter.unusedVariables false

/-- Numbers of 64 bits, put together. -/
def add64 (a b : Int) : Int := IntKind.u64.wrap (a + b)

theorem toList_made (n : Nat) : (madeCells (Value.int .u64 0).cells (n * 1)).toList = (List.replicate n (0 : Int)).map u64 := by
  rw [Nat.mul_one, List.map_replicate]
  exact toList_madeCells_one (.int .u64 0) n

theorem new_post {base n : Nat} {w w1 : World} (hb : base ≤ w.heap.size) (h : w1.ownsRow base 39 1 (.slice (some ⟨w.heap.size, 0, none⟩) n n) n (madeCells (Value.int .u64 0).cells (n * 1)).toList) (hg : w.grownBy w1 none) (hs : w.heap.size < w1.heap.size) :
    IsMem base (w1.alloc (.cells #[.slice (some ⟨w.heap.size, 0, none⟩) n n, .slice none 0 0] 94)) w1.heap.size w.heap.size (.slice none 0 0) (List.replicate n 0) [] ∧ Below w.heap.size w (w1.alloc (.cells #[.slice (some ⟨w.heap.size, 0, none⟩) n n, .slice none 0 0] 94)) := by
  rw [toList_made] at h
  have hl : (List.replicate n (0 : Int)).length = n := List.length_replicate
  refine ⟨⟨?_, World.cell?_alloc_new w1 _ _ 1, fun o => World.frozen?_alloc_at _ _ _ _ rfl, ?_, World.ownsRow_nil _ _ _ _, by omega, by simp [Value.ownBlock], by simp [Value.ownBlock], by omega, by simp, ?_⟩, ?_⟩
  · rw [hl]
    exact World.cell?_alloc_new w1 _ _ 0
  · rw [hl]
    exact h.alloc _
  · intro x hx
    rw [List.eq_of_mem_replicate hx]
    decide
  · exact below_new ((Below.refl _ _).grown hg (Nat.le_refl _) (fun k hk => by cases hk)) _

/-- Cells that were made just now, all nought. -/
def NewPost (base n : Nat) (w : World) (r : Ending) (w' : World) : Prop :=
  ∃ p c, r = .returned (pt p) ∧ IsMem base w' p c (.slice none 0 0) (List.replicate n 0) [] ∧ Below w.heap.size w w' ∧ w.heap.size ≤ p ∧ w.heap.size ≤ c

set_option maxHeartbeats 1000000 in
theorem new_nat (base : Nat) (n : Nat) (k : Int) (w : World) (hb : base ≤ w.heap.size) (h : n ≤ 65536) (hk : (k = n ∨ (k < 0 ∧ n ≤ 0) ∨ (65536 < k ∧ 65536 ≤ n))) :
    Calls Try.prog 38 #[i64 k] w (NewPost base n w) := by
  obtain ⟨i, hi, hz0, hz1, hz2⟩ := elem_u64.info
  rcases hk with rfl | ⟨hk, hn⟩ | ⟨hk, hn⟩
  all_goals
    go_enter Try.func38, Try.ntmps38
    go_wp2_with (refine wpList_make_full _ rfl _ _ 56 rfl base 39 i (.int .u64 0) 1 elem_u64.und hi hz0 hz1 .i64 .i64 _ _ n rfl rfl (by first | rfl | omega) (by first | rfl | omega) (by rw [hz2]; omega) (by unfold maxLen; omega) hb ?_; intro w1 hown hgrow; have hs1 := (hown.lt _ rfl).2)
    go_ret
    have hp := new_post hb hown hgrow hs1
    exact ⟨_, _, rfl, hp.1, hp.2, hgrow.size, Nat.le_refl _⟩

section
variable (base : Nat) (w : World) (p c : Nat) (v : Value) (C : List Int) (L : List Ev)

set_option maxHeartbeats 1000000 in
theorem count_any (hM : IsMem base w p c v C L) :
    Calls Try.prog 26 #[pt p] w fun r w' => r = .returned (i64 L.length) ∧ w = w' := by
  have c1 := hM.c1
  obtain ⟨A, cap, rfl⟩ := own_shape hM.log
  clear hM
  go_enter Try.func26, Try.ntmps26
  go_wp2
  go_ret
  exact ⟨rfl, rfl⟩

set_option maxHeartbeats 1000000 in
theorem peek_in (i : Nat) (x : Int) (hM : IsMem base w p c v C L) (hx : C[i]? = some x) :
    Calls Try.prog 33 #[pt p, i64 i] w fun r w' => r = .returned (u64 x) ∧ w = w' := by
  have c0 := hM.c0
  have cx := hM.at' hx
  have hi := (List.getElem?_eq_some_iff.1 hx).1
  have hi' : (i : Int) < (C.length : Int) := by omega
  have HM := Lib.hid hM
  clear hM hx
  go_enter Try.func33, Try.ntmps33
  go_wp2_with fail
  refine (has_in base _ p c v C L i HM.out hi).mono ?_
  rintro r w1 ⟨rfl, rfl⟩
  go_wp2
  go_ret
  exact ⟨rfl, rfl⟩

set_option maxHeartbeats 1000000 in
theorem peek_out (i : Int) (hM : IsMem base w p c v C L) (hi : i < 0 ∨ (C.length : Int) ≤ i) :
    Calls Try.prog 33 #[pt p, i64 i] w fun r w' => r = .returned (u64 0) ∧ w = w' := by
  go_enter Try.func33, Try.ntmps33
  go_wp2_with fail
  refine (has_out base _ p c v C L i hM hi).mono ?_
  rintro r w1 ⟨rfl, rfl⟩
  go_wp2
  go_ret
  exact ⟨rfl, rfl⟩

set_option maxHeartbeats 1000000 in
theorem load_out (who i : Int) (hM : IsMem base w p c v C L) (hi : i < 0 ∨ (C.length : Int) ≤ i) :
    Calls Try.prog 43 #[pt p, i64 who, i64 i] w fun r w' => r = .returned (u64 0) ∧ w = w' := by
  go_enter Try.func43, Try.ntmps43
  go_wp2_with fail
  refine (has_out base _ p c v C L i hM hi).mono ?_
  rintro r w1 ⟨rfl, rfl⟩
  go_wp2
  go_ret
  exact ⟨rfl, rfl⟩

set_option maxHeartbeats 1000000 in
theorem store_out (who i x : Int) (hM : IsMem base w p c v C L) (hi : i < 0 ∨ (C.length : Int) ≤ i) :
    Calls Try.prog 14 #[pt p, i64 who, i64 i, u64 x] w fun r w' => r = .returned (.tuple #[]) ∧ w = w' := by
  go_enter Try.func14, Try.ntmps14
  go_wp2_with fail
  refine (has_out base _ p c v C L i hM hi).mono ?_
  rintro r w1 ⟨rfl, rfl⟩
  go_wp2
  go_end0
  exact ⟨rfl, rfl⟩

set_option maxHeartbeats 1000000 in
theorem swap_out (who i x y : Int) (hM : IsMem base w p c v C L) (hi : i < 0 ∨ (C.length : Int) ≤ i) :
    Calls Try.prog 46 #[pt p, i64 who, i64 i, u64 x, u64 y] w fun r w' => r = .returned (.bool false) ∧ w = w' := by
  go_enter Try.func46, Try.ntmps46
  go_wp2_with fail
  refine (has_out base _ p c v C L i hM hi).mono ?_
  rintro r w1 ⟨rfl, rfl⟩
  go_wp2
  go_ret
  exact ⟨rfl, rfl⟩

theorem set_same {C : List Int} {i : Nat} {x : Int} (hx : C[i]? = some x) : C.set i x = C := by
  apply List.ext_getElem?
  intro j
  rw [List.getElem?_set]
  split
  · rename_i h
    subst h
    have := (List.getElem?_eq_some_iff.1 hx).1
    simp only [this, if_true, hx]
  · rfl

set_option maxHeartbeats 1000000 in
theorem load_in (who : Int) (i : Nat) (x : Int) (hM : IsMem base w p c v C L) (hx : C[i]? = some x) (hb : base ≤ w.heap.size) (hL : L.length < 1000000000) :
    Calls Try.prog 43 #[pt p, i64 who, i64 i] w (MemPost base w p c v C (L ++ [⟨who, 0, i, x, x, true⟩]) (.returned (u64 x))) := by
  have c0 := hM.c0
  have cx := hM.at' hx
  have hi := (List.getElem?_eq_some_iff.1 hx).1
  have hi' : (i : Int) < (C.length : Int) := by omega
  have ht := turn_any base w p c v C L who 0 i x x true hM hx hb hL (hM.numAt hx).1 (hM.numAt hx).2
  rw [set_same hx] at ht
  have HT := Lib.hid ht
  have HM := Lib.hid hM
  clear hM hx ht
  go_enter Try.func43, Try.ntmps43
  go_wp2_with fail
  refine (has_in base _ p c v C L i HM.out hi).mono ?_
  rintro r w1 ⟨rfl, rfl⟩
  go_wp2_with fail
  refine HT.out.mono ?_
  rintro r w1 ⟨rfl, v', hT⟩
  go_wp2
  go_ret
  exact ⟨rfl, v', hT⟩

set_option maxHeartbeats 1000000 in
theorem store_in (who : Int) (i : Nat) (x y : Int) (hM : IsMem base w p c v C L) (hx : C[i]? = some x) (hb : base ≤ w.heap.size) (hL : L.length < 1000000000) (h0 : 0 ≤ y) (h1 : y ≤ 18446744073709551615) :
    Calls Try.prog 14 #[pt p, i64 who, i64 i, u64 y] w (MemPost base w p c v (C.set i y) (L ++ [⟨who, 1, i, x, y, true⟩]) (.returned (.tuple #[]))) := by
  have hi := (List.getElem?_eq_some_iff.1 hx).1
  have ht := turn_any base w p c v C L who 1 i x y true hM hx hb hL h0 h1
  have HT := Lib.hid ht
  have HM := Lib.hid hM
  clear hM hx ht
  go_enter Try.func14, Try.ntmps14
  go_wp2_with fail
  refine (has_in base _ p c v C L i HM.out hi).mono ?_
  rintro r w1 ⟨rfl, rfl⟩
  go_wp2_with fail
  refine HT.out.mono ?_
  rintro r w1 ⟨rfl, v', hT⟩
  go_wp2
  go_end0
  exact ⟨rfl, v', hT⟩

set_option maxHeartbeats 1000000 in
theorem swap_yes (who : Int) (i : Nat) (x y : Int) (hM : IsMem base w p c v C L) (hx : C[i]? = some x) (hb : base ≤ w.heap.size) (hL : L.length < 1000000000) (h0 : 0 ≤ y) (h1 : y ≤ 18446744073709551615) :
    Calls Try.prog 46 #[pt p, i64 who, i64 i, u64 x, u64 y] w (MemPost base w p c v (C.set i y) (L ++ [⟨who, 2, i, x, y, true⟩]) (.returned (.bool true))) := by
  have c0 := hM.c0
  have cx := hM.at' hx
  have hi := (List.getElem?_eq_some_iff.1 hx).1
  have hi' : (i : Int) < (C.length : Int) := by omega
  have ht := turn_any base w p c v C L who 2 i x y true hM hx hb hL h0 h1
  have HT := Lib.hid ht
  have HM := Lib.hid hM
  clear hM hx ht
  go_enter Try.func46, Try.ntmps46
  go_wp2_with fail
  refine (has_in base _ p c v C L i HM.out hi).mono ?_
  rintro r w1 ⟨rfl, rfl⟩
  go_wp2_with fail
  refine HT.out.mono ?_
  rintro r w1 ⟨rfl, v', hT⟩
  go_wp2
  go_ret
  exact ⟨rfl, v', hT⟩

set_option maxHeartbeats 1000000 in
theorem swap_no (who : Int) (i : Nat) (x z y : Int) (hM : IsMem base w p c v C L) (hx : C[i]? = some x) (hb : base ≤ w.heap.size) (hL : L.length < 1000000000) (hne : x ≠ z) :
    Calls Try.prog 46 #[pt p, i64 who, i64 i, u64 z, u64 y] w (MemPost base w p c v C (L ++ [⟨who, 2, i, x, x, false⟩]) (.returned (.bool false))) := by
  have c0 := hM.c0
  have cx := hM.at' hx
  have hi := (List.getElem?_eq_some_iff.1 hx).1
  have hi' : (i : Int) < (C.length : Int) := by omega
  have ht := turn_any base w p c v C L who 2 i x x false hM hx hb hL (hM.numAt hx).1 (hM.numAt hx).2
  rw [set_same hx] at ht
  have HT := Lib.hid ht
  have HM := Lib.hid hM
  have hd : (x == z) = false := by simpa using hne
  have hd' : (x != z) = true := by simpa using hne
  clear hM hx ht
  go_enter Try.func46, Try.ntmps46
  go_wp2_with fail
  refine (has_in base _ p c v C L i HM.out hi).mono ?_
  rintro r w1 ⟨rfl, rfl⟩
  go_wp2_with fail
  refine HT.out.mono ?_
  rintro r w1 ⟨rfl, v', hT⟩
  go_wp2
  go_ret
  exact ⟨rfl, v', hT⟩

theorem add64_range (a b : Int) : 0 ≤ add64 a b ∧ add64 a b ≤ 18446744073709551615 := by
  unfold add64
  rw [IntKind.wrap_u64]
  omega

end

end Go.Proofs.Yticphioeipbnmaa
