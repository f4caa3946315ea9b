/-
  WordTurns answers true for every word, number and stamp, and leaves all memory that was there as it was. No condition.
-/
import Derived.Test.YtlhacbhdajjkhaaWordCalls
namespace Go.Proofs.Ytlhacbhdajjkhaa
open Go.RowKit

theorem i64_and_one (t : Int) : bits BinOp.and IntKind.i64 t 1 = 0 ∨ bits BinOp.and IntKind.i64 t 1 = 1 := by
  have h : bits BinOp.and IntKind.i64 t 1 = IntKind.i64.wrap (((BitVec.ofInt 64 t).toNat % 2 : Nat) : Int) := by
    show IntKind.i64.wrap ((BitVec.ofInt 64 t &&& BitVec.ofInt 64 1).toNat : Int) = _
    rw [BitVec.toNat_and, show (BitVec.ofInt 64 1).toNat = 2 ^ 1 - 1 from rfl, Nat.and_two_pow_sub_one_eq_mod]
  rw [h, IntWalk.i64_in _ (by omega)]
  omega

theorem other_ways (t : Int) : (otherE t = 1 ∧ (t == 0) = true) ∨ (otherE t = 0 ∧ (t == 0) = false) := by
  by_cases h : t = 0
  · exact .inl ⟨by rw [h]; rfl, by simp [h]⟩
  · exact .inr ⟨by unfold otherE; rw [if_neg h], by simp [h]⟩

set_option maxHeartbeats 4000000 in
theorem walk_WordTurns (s e g lo hi t a b : Int) (w : World) (_w0_0 : (Lit.int .i64 s).wf = true) (_w0_1 : (Lit.int .i64 e).wf = true) (_w0_2 : (Lit.int .i64 g).wf = true) (_w0_3 : (Lit.int .i64 lo).wf = true) (_w0_4 : (Lit.int .i64 hi).wf = true) (_w1 : (Lit.int .i64 t).wf = true) (_w2_0 : (Lit.int .i64 a).wf = true) (_w2_1 : (Lit.int .i64 b).wf = true) :
    Calls Try.prog 13 #[wd s e g lo hi, i64 t, st a b] w fun r w' => r = .returned (.bool true) ∧ Below w.heap.size w w' := by
  clear _w0_0 _w0_1 _w0_2 _w0_3 _w0_4 _w1 _w2_0 _w2_1
  have q0 : ((w.alloc (.cells #[.int .i64 s, .int .i64 e, .int .i64 g, .int .i64 lo, .int .i64 hi] 38)).alloc (.cells #[.int .i64 a, .int .i64 b] 23)).cell? ⟨w.heap.size, 0, none⟩ = some (i64 s) := by go_simp
  have q1 : ((w.alloc (.cells #[.int .i64 s, .int .i64 e, .int .i64 g, .int .i64 lo, .int .i64 hi] 38)).alloc (.cells #[.int .i64 a, .int .i64 b] 23)).cell? ⟨w.heap.size, 1, none⟩ = some (i64 e) := by go_simp
  have q2 : ((w.alloc (.cells #[.int .i64 s, .int .i64 e, .int .i64 g, .int .i64 lo, .int .i64 hi] 38)).alloc (.cells #[.int .i64 a, .int .i64 b] 23)).cell? ⟨w.heap.size, 2, none⟩ = some (i64 g) := by go_simp
  have q3 : ((w.alloc (.cells #[.int .i64 s, .int .i64 e, .int .i64 g, .int .i64 lo, .int .i64 hi] 38)).alloc (.cells #[.int .i64 a, .int .i64 b] 23)).cell? ⟨w.heap.size, 3, none⟩ = some (i64 lo) := by go_simp
  have q4 : ((w.alloc (.cells #[.int .i64 s, .int .i64 e, .int .i64 g, .int .i64 lo, .int .i64 hi] 38)).alloc (.cells #[.int .i64 a, .int .i64 b] 23)).cell? ⟨w.heap.size, 4, none⟩ = some (i64 hi) := by go_simp
  have q5 : ((w.alloc (.cells #[.int .i64 s, .int .i64 e, .int .i64 g, .int .i64 lo, .int .i64 hi] 38)).alloc (.cells #[.int .i64 a, .int .i64 b] 23)).cell? ⟨w.heap.size + 1, 0, none⟩ = some (i64 a) := by go_simp
  have q6 : ((w.alloc (.cells #[.int .i64 s, .int .i64 e, .int .i64 g, .int .i64 lo, .int .i64 hi] 38)).alloc (.cells #[.int .i64 a, .int .i64 b] 23)).cell? ⟨w.heap.size + 1, 1, none⟩ = some (i64 b) := by go_simp
  have o0 : otherE 0 = 1 := rfl
  have o1 : otherE 1 = 0 := rfl
  rcases i64_and_one t with hE | hE
  all_goals
    rcases other_ways t with ⟨o2, ht'⟩ | ⟨o2, ht'⟩
  all_goals
    go_enter Try.func13, Try.ntmps13
    go_wp2_with fail
    refine (head2_any _).mono ?_
    rintro r w1 ⟨rfl, hb1⟩
    replace q0 := cell_later hb1 q0
    replace q1 := cell_later hb1 q1
    replace q2 := cell_later hb1 q2
    replace q3 := cell_later hb1 q3
    replace q4 := cell_later hb1 q4
    replace q5 := cell_later hb1 q5
    replace q6 := cell_later hb1 q6
    go_wp2_with fail
    refine (taken_any _ _ _ _ _ _).mono ?_
    rintro r w2 ⟨rfl, hb2⟩
    replace q0 := cell_later hb2 q0
    replace q1 := cell_later hb2 q1
    replace q2 := cell_later hb2 q2
    replace q3 := cell_later hb2 q3
    replace q4 := cell_later hb2 q4
    replace q5 := cell_later hb2 q5
    replace q6 := cell_later hb2 q6
    have hz : w.heap.size + 1 < w2.heap.size := by have e1 := hb1.size; have e2 := hb2.size; simp at e1; omega
    have n0 : w.heap.size < w2.heap.size := by omega
    go_wp2_with fail
    refine (next_any _ _ _ _ _ _ _ _ _).mono ?_
    rintro r w3 ⟨rfl, hb3⟩
    replace q0 := cell_later hb3 (World.cell?_alloc_some w2 _ _ (by rw [q0]; rfl) |>.trans q0)
    replace q1 := cell_later hb3 (World.cell?_alloc_some w2 _ _ (by rw [q1]; rfl) |>.trans q1)
    replace q2 := cell_later hb3 (World.cell?_alloc_some w2 _ _ (by rw [q2]; rfl) |>.trans q2)
    replace q3 := cell_later hb3 (World.cell?_alloc_some w2 _ _ (by rw [q3]; rfl) |>.trans q3)
    replace q4 := cell_later hb3 (World.cell?_alloc_some w2 _ _ (by rw [q4]; rfl) |>.trans q4)
    replace q5 := cell_later hb3 (World.cell?_alloc_some w2 _ _ (by rw [q5]; rfl) |>.trans q5)
    replace q6 := cell_later hb3 (World.cell?_alloc_some w2 _ _ (by rw [q6]; rfl) |>.trans q6)
    have t0 := cell_later hb3 (World.cell?_alloc_new w2 #[.int .i64 2, .int .i64 e, .int .i64 g, .int .i64 lo, .int .i64 hi] 38 0)
    have t1 := cell_later hb3 (World.cell?_alloc_new w2 #[.int .i64 2, .int .i64 e, .int .i64 g, .int .i64 lo, .int .i64 hi] 38 1)
    have t2 := cell_later hb3 (World.cell?_alloc_new w2 #[.int .i64 2, .int .i64 e, .int .i64 g, .int .i64 lo, .int .i64 hi] 38 2)
    have t3 := cell_later hb3 (World.cell?_alloc_new w2 #[.int .i64 2, .int .i64 e, .int .i64 g, .int .i64 lo, .int .i64 hi] 38 3)
    have t4 := cell_later hb3 (World.cell?_alloc_new w2 #[.int .i64 2, .int .i64 e, .int .i64 g, .int .i64 lo, .int .i64 hi] 38 4)
    have hz3 : w2.heap.size < w3.heap.size := by have e3 := hb3.size; simp at e3; omega
    have n3 : w.heap.size < w3.heap.size := by omega
    have n4 : w.heap.size + 1 < w3.heap.size := by omega
    go_wp2_with (go_at_call 30; refine (other_any _ _).mono ?_; rintro e w' ⟨rfl, rfl⟩)
    all_goals
      go_ret
      exact ⟨rfl, below_new (below_step (below_new (below_step (below_step (below_new (below_new (Below.refl _ _) _) _) hb1) hb2) _) hb3) _⟩

end Go.Proofs.Ytlhacbhdajjkhaa
