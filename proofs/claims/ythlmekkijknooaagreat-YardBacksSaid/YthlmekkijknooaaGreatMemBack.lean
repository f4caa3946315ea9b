/-
  Contracts of redo and asked of package mem: what an event tells, done again. No condition but that numbers fit their kinds.
-/
import Derived.Test.YthlmekkijknooaaGreatMemRows
namespace Go.Proofs.YthlmekkijknooaaGreat
open Go.RowKit
set_option linter.unusedVariables false

abbrev Ev.val (e : Ev) : Value := .agg #[.int .i64 e.who, .int .i64 e.op, .int .i64 e.cell, .int .u64 e.old, .int .u64 e.new, .bool e.ok]

def Ev.num (e : Ev) : Prop := 0 ≤ e.old ∧ e.old ≤ 18446744073709551615 ∧ 0 ≤ e.new ∧ e.new ≤ 18446744073709551615

theorem xor_max_ne (y : Int) (h0 : 0 ≤ y) (h1 : y ≤ 18446744073709551615) : ¬ bits .xor .u64 IntKind.u64.max y = y := by
  intro h
  rw [show IntKind.u64.max = 18446744073709551615 from rfl, u64_xor _ y (by omega) (by omega) h0 (by omega)] at h
  have h2 : (18446744073709551615 : Int).toNat ^^^ y.toNat = y.toNat := by omega
  have h3 := congrArg (· ^^^ y.toNat) h2
  simp only [Nat.xor_assoc, Nat.xor_self, Nat.xor_zero] at h3
  exact absurd h3 (by decide)

/-- Whether an event can be noted of cells that are C. -/
def OkE (e : Ev) (C : List Int) : Prop :=
  0 ≤ e.op ∧ e.op ≤ 3 ∧ 0 ≤ e.cell ∧ e.cell < C.length ∧ e.old = C.getD e.cell.toNat 0 ∧ (e.op ≠ 2 → e.ok = true) ∧ (e.op = 0 ∨ e.ok = false → e.new = C.getD e.cell.toNat 0)

section
variable (base : Nat) (w : World) (p c : Nat) (v : Value) (C : List Int) (L : List Ev)

set_option maxHeartbeats 1000000 in
theorem asked_yes (who op cell old new : Int) :
    Calls Tryz.prog 80 #[pt p, Ev.val ⟨who, op, cell, old, new, true⟩] w fun r w' => r = .returned (u64 old) ∧ Below w.heap.size w w' := by
  go_enter Tryz.func80, Tryz.ntmps80
  go_wp2
  go_ret
  exact ⟨rfl, below_new (Below.refl _ _) _⟩

set_option maxHeartbeats 1000000 in
theorem asked_no (who op old new : Int) (i : Nat) (y : Int) (hM : IsMem base w p c v C L) (hy : C[i]? = some y) :
    Calls Tryz.prog 80 #[pt p, Ev.val ⟨who, op, i, old, new, false⟩] w fun r w' => (∃ z, r = .returned (u64 z) ∧ z ≠ y) ∧ Below w.heap.size w w' := by
  have hs := hM.ps
  have hcs := hM.cb
  have hM1 := hM.later (below_new (Below.refl _ _) (.cells #[.int .i64 who, .int .i64 op, .int .i64 i, .int .u64 old, .int .u64 new, .bool false] 72))
  have c0 := hM1.c0
  have cy := hM1.at' hy
  have hi := (List.getElem?_eq_some_iff.1 hy).1
  have hi' : (i : Int) < (C.length : Int) := by omega
  obtain ⟨y0, y1⟩ := hM.numAt hy
  clear hM hM1 hy
  go_enter Tryz.func80, Tryz.ntmps80
  go_wp2_with fail
  refine wp_region_seq ((0, true) :: (1, true) :: (2, true) :: (3, true) :: (4, true) :: (5, true) :: (6, true) :: (7, true) :: (8, true) :: (9, true) :: []) (by kernel_rfl) (by kernel_rfl) (by kernel_rfl) (by decide) (fun _ _ _ _ _ h => h) (fun hHeld => ?_)
  repeat (first
    | (refine seq_take (v := ?_) rfl ?_ ?_ ?_; rotate_left 1; rfl; (focus (intro wS hSw; have hk := below_rule hSw; go_simp; first | done | with_reducible rfl)); (try simp only [Act.put, List.setIfInBounds_toArray, List.set_cons_zero, List.set_cons_succ]))
    | (refine seq_skip rfl ?_ ?_; rfl; (try simp only [Act.put, List.setIfInBounds_toArray, List.set_cons_zero, List.set_cons_succ]))
    | (refine seq_run rfl (fun K hK => ?_); go_simp; (try skip); (try go_wp2_with fail); refine hK.out _ _ ?_ ?_; (focus (first | exact below_step hHeld hb' | exact below_new hHeld _ | exact hHeld)); (try clear hb'); clear hHeld hK K; intro hHeld; (try simp only [Act.put, List.setIfInBounds_toArray, List.set_cons_zero, List.set_cons_succ])))
  first | refine seq_done ?_ | skip
  go_wp2
  go_ret
  refine ⟨⟨_, rfl, ?_⟩, below_step (below_new (Below.refl _ _) _) hHeld⟩
  exact xor_max_ne y y0 y1
end

/-- The event lies in a block of its own. -/
structure AtV (w : World) (b : Nat) (e : Ev) : Prop where
  c0 : w.cell? ⟨b, 0, none⟩ = some (.int .i64 e.who)
  c1 : w.cell? ⟨b, 1, none⟩ = some (.int .i64 e.op)
  c2 : w.cell? ⟨b, 2, none⟩ = some (.int .i64 e.cell)
  c3 : w.cell? ⟨b, 3, none⟩ = some (.int .u64 e.old)
  c4 : w.cell? ⟨b, 4, none⟩ = some (.int .u64 e.new)
  c5 : w.cell? ⟨b, 5, none⟩ = some (.bool e.ok)

theorem AtV.made (w : World) (e : Ev) : AtV (w.alloc (.cells #[.int .i64 e.who, .int .i64 e.op, .int .i64 e.cell, .int .u64 e.old, .int .u64 e.new, .bool e.ok] 72)) w.heap.size e :=
  ⟨World.cell?_alloc_new w _ _ 0, World.cell?_alloc_new w _ _ 1, World.cell?_alloc_new w _ _ 2, World.cell?_alloc_new w _ _ 3, World.cell?_alloc_new w _ _ 4, World.cell?_alloc_new w _ _ 5⟩
theorem AtV.keep {w w' : World} {b : Nat} {e : Ev} {T : Nat → Prop} (h : AtV w b e) (k : Keep T w w') (hn : ¬ T b) : AtV w' b e :=
  ⟨k.cell h.c0 hn, k.cell h.c1 hn, k.cell h.c2 hn, k.cell h.c3 hn, k.cell h.c4 hn, k.cell h.c5 hn⟩

/-- What is asked of memory for the last line of redo. -/
structure Last (w : World) (p : Nat) (n : Nat) (e : Ev) : Prop where
  rest : ∃ b o cap, w.cell? ⟨p, 1, none⟩ = some (.slice (some ⟨b, o, none⟩) (n + 1) cap) ∧ n + 1 ≤ cap ∧ w.cell? ⟨b, o + n * 6, none⟩ = some (i64 e.who) ∧ w.cell? ⟨b, o + n * 6 + 1, none⟩ = some (i64 e.op) ∧ w.cell? ⟨b, o + n * 6 + 2, none⟩ = some (i64 e.cell) ∧
    w.cell? ⟨b, o + n * 6 + 3, none⟩ = some (u64 e.old) ∧ w.cell? ⟨b, o + n * 6 + 4, none⟩ = some (u64 e.new) ∧ w.cell? ⟨b, o + n * 6 + 5, none⟩ = some (.bool e.ok)

theorem IsMem.last {base : Nat} {w : World} {p c : Nat} {v : Value} {C : List Int} {L : List Ev} {e : Ev} (h : IsMem base w p c v C (L ++ [e])) : Last w p L.length e := by
  have hlog := h.log
  obtain ⟨A, cap, rfl⟩ := own_shape hlog
  obtain ⟨b, o, rfl, _, hc⟩ := AtE.row hlog (by simp)
  have hcap : L.length + 1 ≤ cap := by
    rcases hlog.2 with ⟨_, h0⟩ | ⟨g, cap', cur, hv, _, _, hnc, _⟩
    · simp at h0
    · cases hv
      simpa using hnc
  have c1 := h.c1
  rw [List.length_append] at c1
  exact ⟨b, o, cap, c1, hcap, hc L.length e (by simp)⟩



theorem okE_at {e : Ev} {C : List Int} {i : Nat} {y : Int} (hc : e.cell = i) (hy : C[i]? = some y) : OkE e C ↔ (0 ≤ e.op ∧ e.op ≤ 3 ∧ e.old = y ∧ (e.op ≠ 2 → e.ok = true) ∧ (e.op = 0 ∨ e.ok = false → e.new = y)) := by
  have hd : C.getD i 0 = y := by rw [List.getD_eq_getElem?_getD, hy]; rfl
  have hi := (List.getElem?_eq_some_iff.1 hy).1
  unfold OkE
  rw [hc, Int.toNat_natCast, hd]
  constructor
  · rintro ⟨h1, h2, h3, h4, h5⟩
    exact ⟨h1, h2, h5⟩
  · rintro ⟨h1, h2, h5⟩
    exact ⟨h1, h2, by omega, by omega, h5⟩

end Go.Proofs.YthlmekkijknooaaGreat
