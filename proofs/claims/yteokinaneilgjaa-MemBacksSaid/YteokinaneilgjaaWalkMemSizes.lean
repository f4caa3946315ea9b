/-
  MemSizes and MemWraps answer true for all numbers, and leave all memory that was there as it was. No condition.
-/
import Derived.Test.YteokinaneilgjaaMemCalls3
import Derived.OpenShut
namespace Go.Proofs.Yteokinaneilgjaa
open Go.RowKit
set_option linter.unusedVariables false

/-- What is known of cells that the call itself made. -/
structure Own (w0 w : World) (p c : Nat) (v : Value) (C : List Int) (L : List Ev) : Prop where
  mem : IsMem w0.heap.size w p c v C L
  size : w0.heap.size ≤ w.heap.size
  below : Below w0.heap.size w0 w

theorem Own.step {w0 w w' : World} {p c : Nat} {v v' : Value} {C C' : List Int} {L L' : List Ev} (h : Own w0 w p c v C L) (k : Touched w0.heap.size w w' p c v v' C' L') : Own w0 w' p c v' C' L' :=
  ⟨k.mem, Nat.le_trans h.size k.keep.size, below_keep h.below k.keep h.size (fun i hi => (h.mem.foot i hi).1)⟩
theorem Own.later {w0 w w' : World} {p c : Nat} {v : Value} {C : List Int} {L : List Ev} (h : Own w0 w p c v C L) (k : Below w.heap.size w w') : Own w0 w' p c v C L :=
  ⟨h.mem.later k, Nat.le_trans h.size k.size, below_step' h.below k h.size⟩
theorem Own.made {w0 w w' : World} {p c : Nat} {v : Value} {C : List Int} {L : List Ev} (hb : Below w0.heap.size w0 w) (hM : IsMem w0.heap.size w' p c v C L) (k : Below w.heap.size w w') : Own w0 w' p c v C L :=
  ⟨hM, Nat.le_trans hb.size k.size, below_step' hb k hb.size⟩

theorem wrap0 (x : Int) (h0 : 0 ≤ x) (h1 : x ≤ 18446744073709551615) : IntKind.u64.wrap (0 - x) = if x = 0 then 0 else 18446744073709551616 - x := by
  rw [IntKind.wrap_u64]
  split <;> omega

set_option maxHeartbeats 2000000 in
theorem walk_MemSizes (a : Int) (w : World) (w0 : (Lit.int .i64 a).wf = true) :
    Calls Try.prog 7 #[.int .i64 a] w fun e w' => e = .returned (.bool true) ∧ Below w.heap.size w w' := by
  clear w0
  obtain ⟨n, hn, hk⟩ : ∃ n : Nat, n ≤ 65536 ∧ (a = n ∨ (a < 0 ∧ n ≤ 0) ∨ (65536 < a ∧ 65536 ≤ n)) := by
    by_cases h1 : a < 0
    · exact ⟨0, by omega, .inr (.inl ⟨h1, by omega⟩)⟩
    · by_cases h2 : 65536 < a
      · exact ⟨65536, by omega, .inr (.inr ⟨h2, by omega⟩)⟩
      · exact ⟨a.toNat, by omega, .inl (by omega)⟩
  have hN := fun W (hW : w.heap.size ≤ W.heap.size) => new_nat w.heap.size n a W hW hn hk
  have HN := Lib.hid hN
  clear hN
  by_cases hz : n = 0
  · subst hz
    have hlen : (List.replicate 0 (0 : Int)).length = 0 := rfl
    rcases hk with rfl | ⟨hk, _⟩ | ⟨_, hk⟩
    case inr.inr => omega
    all_goals
      go_enter Try.func7, Try.ntmps7
      go_wp2_with fail
      refine (head3_any _).mono ?_
      rintro r w1 ⟨rfl, hb1⟩
      go_wp2_with fail
      refine (HN.out _ hb1.size).mono ?_
      rintro r w2 ⟨p, c, rfl, hM2, hb2, hp, hc⟩
      have hO := Own.made hb1 hM2 hb2
      clear hM2 hb2 hb1 hp hc
      go_wp2_with fail
      refine (store_out _ _ p c _ _ _ 0 (-1) 7 hO.mem (.inl (by omega))).mono ?_
      rintro r w' ⟨rfl, rfl⟩
      go_wp2_with fail
      refine (store_out _ _ p c _ _ _ 0 0 7 hO.mem (.inr (by simp))).mono ?_
      rintro r w' ⟨rfl, rfl⟩
      go_wp2_with fail
      refine (len_any _ _ p c _ _ _ hO.mem).mono ?_
      rintro r w' ⟨rfl, rfl⟩
      go_wp2_with fail
      refine (count_any _ _ p c _ _ _ hO.mem).mono ?_
      rintro r w' ⟨rfl, rfl⟩
      have hbf := hO.below
      clear hO
      go_wp2
      go_ret
      exact ⟨rfl, hbf⟩
  · have hx : (List.replicate n (0 : Int))[n - 1]? = some 0 := by rw [List.getElem?_replicate, if_pos (by omega)]
    have hl1 : (List.replicate n (0 : Int)).length = n := List.length_replicate
    have hl : ((List.replicate n (0 : Int)).set (n - 1) 7).length = n := by rw [List.length_set, List.length_replicate]
    have hx2 : ((List.replicate n (0 : Int)).set (n - 1) 7)[n - 1]? = some 7 := by rw [List.getElem?_set, if_pos rfl, if_pos (by omega)]
    have e1 : ((n - 1 : Nat) : Int) = (n : Int) - 1 := by omega
    have HX := Lib.hid hx
    have HX2 := Lib.hid hx2
    have HL := Lib.hid hl
    have HL1 := Lib.hid hl1
    have E1 := Lib.hid e1
    clear hx hx2 hl hl1 e1
    have hn1 : (1 : Int) ≤ (n : Int) := by omega
    have hn2 : (n : Int) ≤ 65536 := by omega
    have hn3 : ((n : Int) == 0) = false := by simp; omega
    have hk' : (a = n ∨ (65536 < a ∧ 65536 ≤ n)) := by omega
    have hmin : min (n : Int) 1 = 1 := by omega
    clear hk
    rcases hk' with rfl | ⟨hk, hn4⟩
    · rcases (by omega : n = 1 ∨ 2 ≤ n) with rfl | hn5
      all_goals
        go_enter Try.func7, Try.ntmps7
        go_wp2_with fail
        refine (head3_any _).mono ?_
        rintro r w1 ⟨rfl, hb1⟩
        go_wp2_with fail
        refine (HN.out _ hb1.size).mono ?_
        rintro r w2 ⟨p, c, rfl, hM2, hb2, hp, hc⟩
        have hO := Own.made hb1 hM2 hb2
        clear hM2 hb2 hb1 hp hc
        go_wp2_with fail
        (first | rw [← E1.out] | skip)
        refine (store_in _ _ p c _ _ _ 0 _ 0 7 hO.mem HX.out hO.size (by decide) (by decide) (by decide)).mono ?_
        rintro r w3 ⟨rfl, v3, hT⟩
        replace hO := hO.step hT
        clear hT
        go_wp2_with fail
        refine (store_out _ _ p c _ _ _ 0 _ 7 hO.mem (.inr (by rw [HL.out]; omega))).mono ?_
        rintro r w' ⟨rfl, rfl⟩
        go_wp2_with fail
        refine (len_any _ _ p c _ _ _ hO.mem).mono ?_
        rintro r w' ⟨rfl, rfl⟩
        rw [HL.out]
        go_wp2_with fail
        refine (count_any _ _ p c _ _ _ hO.mem).mono ?_
        rintro r w' ⟨rfl, rfl⟩
        go_wp2_with fail
        (first | rw [← E1.out] | skip)
        refine (peek_in _ _ p c _ _ _ _ 7 hO.mem HX2.out).mono ?_
        rintro r w' ⟨rfl, rfl⟩
        have hbf := hO.below
        clear hO
        go_wp2
        go_ret
        exact ⟨rfl, hbf⟩

    · have q1 : ((n : Int) == 65536) = true := by simp; omega
      have E2 : Hid ((65535 : Int) = ((n - 1 : Nat) : Int)) := by show _ = _; omega
      go_enter Try.func7, Try.ntmps7
      go_wp2_with fail
      refine (head3_any _).mono ?_
      rintro r w1 ⟨rfl, hb1⟩
      go_wp2_with fail
      refine (HN.out _ hb1.size).mono ?_
      rintro r w2 ⟨p, c, rfl, hM2, hb2, hp, hc⟩
      have hO := Own.made hb1 hM2 hb2
      clear hM2 hb2 hb1 hp hc
      go_wp2_with fail
      rw [E2.out]
      refine (store_in _ _ p c _ _ _ 0 _ 0 7 hO.mem HX.out hO.size (by decide) (by decide) (by decide)).mono ?_
      rintro r w3 ⟨rfl, v3, hT⟩
      replace hO := hO.step hT
      clear hT
      go_wp2_with fail
      refine (store_out _ _ p c _ _ _ 0 _ 7 hO.mem (.inr (by rw [HL.out]; omega))).mono ?_
      rintro r w' ⟨rfl, rfl⟩
      go_wp2_with fail
      refine (len_any _ _ p c _ _ _ hO.mem).mono ?_
      rintro r w' ⟨rfl, rfl⟩
      rw [HL.out]
      go_wp2_with fail
      refine (count_any _ _ p c _ _ _ hO.mem).mono ?_
      rintro r w' ⟨rfl, rfl⟩
      go_wp2_with fail
      rw [E2.out]
      refine (peek_in _ _ p c _ _ _ _ 7 hO.mem HX2.out).mono ?_
      rintro r w' ⟨rfl, rfl⟩
      have hbf := hO.below
      clear hO
      go_wp2
      go_ret
      exact ⟨rfl, hbf⟩

theorem add64_zero (y : Int) (h0 : 0 ≤ y) (h1 : y ≤ 18446744073709551615) : add64 y (IntKind.u64.wrap (-y)) = 0 := by
  unfold add64
  simp only [IntKind.wrap_u64]
  omega
theorem add64_back (x y : Int) (h0 : 0 ≤ y) (h1 : y ≤ 18446744073709551615) : add64 (add64 y x) (IntKind.u64.wrap (-x)) = y := by
  unfold add64
  simp only [IntKind.wrap_u64]
  omega
theorem add64_comm (x y : Int) : add64 x y = add64 y x := by
  unfold add64
  rw [Int.add_comm]

set_option maxHeartbeats 2000000 in
theorem walk_MemWraps (x y : Int) (w : World) (w0 : (Lit.int .u64 x).wf = true) (w1 : (Lit.int .u64 y).wf = true) :
    Calls Try.prog 10 #[.int .u64 x, .int .u64 y] w fun e w' => e = .returned (.bool true) ∧ Below w.heap.size w w' := by
  obtain ⟨x0, x1⟩ := bounds_u64 w0
  obtain ⟨y0, y1⟩ := bounds_u64 w1
  clear w0 w1
  have h1 := add64_back x y y0 y1
  have h2 := add64_zero y y0 y1
  have H1 := Lib.hid h1
  have H2 := Lib.hid h2
  have H3 := Lib.hid (add64_comm y x)
  clear h1 h2
  go_enter Try.func10, Try.ntmps10
  go_wp2_with fail
  refine (head3_any _).mono ?_
  rintro r w1 ⟨rfl, hb1⟩
  go_wp2_with fail
  refine (new_nat w.heap.size 1 1 _ hb1.size (by decide) (.inl rfl)).mono ?_
  rintro r w2 ⟨p, c, rfl, hM2, hb2, hp, hc⟩
  have hO := Own.made hb1 hM2 hb2
  clear hM2 hb2 hb1 hp hc
  go_wp2_with fail
  refine (store_in _ _ p c _ _ _ 0 0 0 y hO.mem rfl hO.size (by decide) y0 y1).mono ?_
  rintro r w3 ⟨rfl, v3, hT⟩
  replace hO := hO.step hT
  clear hT
  go_wp2_with fail
  refine (add_in _ _ p c _ _ _ 1 0 y x hO.mem rfl hO.size (by simp)).mono ?_
  rintro r w4 ⟨rfl, v4, hT⟩
  replace hO := hO.step hT
  clear hT
  go_wp2_with fail
  refine (add_in _ _ p c _ _ _ 2 0 (add64 y x) _ hO.mem rfl hO.size (by simp)).mono ?_
  rintro r w5 ⟨rfl, v5, hT⟩
  replace hO := hO.step hT
  rw [H1.out] at hO
  clear hT
  go_wp2_with fail
  refine (add_in _ _ p c _ _ _ 3 0 y _ hO.mem rfl hO.size (by simp)).mono ?_
  rintro r w6 ⟨rfl, v6, hT⟩
  replace hO := hO.step hT
  rw [H2.out] at hO
  clear hT
  have q : (add64 y x == IntKind.u64.wrap (x + y)) = true := by rw [add64_comm]; simp [add64]
  go_wp2_with fail
  refine (peek_in _ _ p c _ _ _ 0 0 hO.mem rfl).mono ?_
  rintro r w' ⟨rfl, rfl⟩
  go_wp2_with fail
  refine (count_any _ _ p c _ _ _ hO.mem).mono ?_
  rintro r w' ⟨rfl, rfl⟩
  have hbf := hO.below
  clear hO
  go_wp2
  go_ret
  exact ⟨rfl, hbf⟩

end Go.Proofs.Yteokinaneilgjaa
