/-
  What the laws on snaps have in common: what the call holds, the document's example, turns as they came in. No condition.
-/
import Derived.Test.YticphioeipbnmaaMore
import Derived.Test.YticphioeipbnmaaSnapPure
import Derived.Test.YticphioeipbnmaaTickLaw
namespace Go.Proofs.Yticphioeipbnmaa
open Go.RowKit
set_option linter.unusedVariables false

/-- Cells, a snap, and what else the call holds. -/
def SnapHold (W w : World) (p c : Nat) (v : Value) (C : List Int) (L : List Ev) (b g : Nat) (k : Sn) (R : List Thing) : Prop :=
  Hold W w (tMem W.heap.size p c v C L :: tSn W.heap.size b g k :: R)

section
variable {W w w' : World} {p c b g : Nat} {v v' : Value} {C C' : List Int} {L L' : List Ev} {k k' : Sn} {R : List Thing}
theorem SnapHold.mem (h : SnapHold W w p c v C L b g k R) : IsMem W.heap.size w p c v C L := Hold.has h 0 _ rfl
theorem SnapHold.sn (h : SnapHold W w p c v C L b g k R) : IsSn W.heap.size w b g k := Hold.has h 1 _ rfl
theorem SnapHold.later (h : SnapHold W w p c v C L b g k R) (e : Below w.heap.size w w') : SnapHold W w' p c v C L b g k R := Hold.later h e
theorem SnapHold.drew (h : SnapHold W w p c v C L b g k R) : SnapHold W w.drew p c v C L b g k R := Hold.drew h
theorem SnapHold.size (h : SnapHold W w p c v C L b g k R) : W.heap.size ≤ w.heap.size := Hold.size h
theorem SnapHold.below (h : SnapHold W w p c v C L b g k R) : Below W.heap.size W w := Hold.below h
theorem SnapHold.store (h : SnapHold W w p c v C L b g k R) (t : Touched W.heap.size w w' p c v v' C' L') : SnapHold W w' p c v' C' L' b g k R := Hold.mem h 0 rfl t
theorem SnapHold.does (h : SnapHold W w p c v C L b g k R) (d : Does (fun i => i = b ∨ i = g) W.heap.size w w' p c v v' C' L') (hk : IsSn W.heap.size w' b g k') : SnapHold W w' p c v' C' L' b g k' R :=
  Hold.does h 0 1 (by decide) rfl rfl d (tSn_ok _ _ _ _) hk (fun q hq => hq)
/-- A step. -/
theorem SnapHold.call {n : Int} (h : SnapHold W w p c v C L b g k R) (hk : k.Ok n C) (hL : L.length < 1000000000) :
    Calls Try.prog 19 #[pt b, pt p] w fun r w' => r = .returned (i64 (k.step C).ph) ∧ ∃ v', SnapHold W w' p c v' C (L ++ k.ev C) b g (k.step C) R :=
  (snstep_any W.heap.size w b g p c v C L k n hk h.sn h.mem (fun i hi => Hold.free h 0 1 (by decide) rfl rfl i hi) h.size hL).mono fun r w' ⟨hr, v', hd, hs⟩ => ⟨hr, v', h.does hd hs⟩
theorem SnapHold.begun {w1 : World} {n : Nat} (hB : Below W.heap.size W w) (hM : IsMem W.heap.size w' p c (.slice none 0 0) (List.replicate n 0) []) (e : Below w.heap.size w w') (hp : w.heap.size ≤ p) (hc : w.heap.size ≤ c)
    (e1 : Below w'.heap.size w' w1) (hk : IsSn W.heap.size w1 b g k) (hb : w'.heap.size ≤ b) (hg : w'.heap.size ≤ g) : SnapHold W w1 p c (.slice none 0 0) (List.replicate n 0) [] b g k [] :=
  have h0 : Hold W w' ([] ++ [tMem W.heap.size p c (.slice none 0 0) (List.replicate n 0) []]) := (Hold.nil hB).more e (tMem_ok _ _ _ _ _ _) hM (fun q hq => by
    rcases hq with rfl | rfl | hq
    · exact hp
    · exact hc
    · cases hq)
  Hold.more h0 e1 (tSn_ok _ _ _ _) hk (fun q hq => by
    rcases hq with rfl | rfl
    · exact hb
    · exact hg)
/-- Something new. -/
theorem SnapHold.more {A : Thing} (h : SnapHold W w p c v C L b g k R) (e : Below w.heap.size w w') (ok : A.Ok W.heap.size) (hP : A.P w') (hF : ∀ q, A.F q → w.heap.size ≤ q) : SnapHold W w' p c v C L b g k (R ++ [A]) :=
  Hold.more h e ok hP hF
end

theorem Sn.ev_le (k : Sn) (C : List Int) : (k.ev C).length ≤ 1 := by
  unfold Sn.ev
  split <;> simp

section
variable {k : Sn} {C : List Int} {N st i B : Nat} {last : Int}
theorem Snap.cases (h : Snap k C N st i B last) : (k.ph = 0 ∧ i < (B + 2) * N) ∨ (k.ph = 1 ∧ ∃ P, i = P * N ∧ k.passes = (P : Int) ∧ 2 ≤ P ∧ P ≤ B + 2 ∧ (last < (P : Int) - 1 → ∀ j, j < N → k.X.getD j 0 = C.getD j 0)) := by
  rcases h with ⟨P, r, hi, h⟩ | ⟨P, hi, h⟩
  · have h1 := Nat.mul_le_mul_right N h.c3
    have h2 := h.at'.r1
    refine .inl ⟨h.ph, ?_⟩
    rw [Nat.add_mul] at h1 ⊢
    omega
  · exact .inr ⟨h.ph, P, hi, h.at'.passes, h.p, h.b, h.x⟩
theorem Snap.X (h : Snap k C N st i B last) : k.X.length = N ∧ k.N = N := by
  rcases h with ⟨P, r, hi, h⟩ | ⟨P, hi, h⟩
  · exact ⟨h.at'.X, h.at'.hN⟩
  · exact ⟨h.at'.X, h.at'.hN⟩
theorem Snap.ok {t s n : Int} {k0 : Sn} (h : Snap k C N st i B last) (hs : SnSame k0 k) (ht : k0.t = t) (hs' : k0.s = s) (hl : Lay t s n) (hN : (N : Int) = n) (hlen : (C.length : Int) = 2 * n + 2 * t) (hi : i ≤ 1000000) : k.Ok n C := by
  have e1 : k.t = t := hs.1.trans ht
  have e2 : k.s = s := hs.2.1.trans hs'
  have hn := hl.n1
  have ht := hl.t1
  have hP : ∀ P r, i = P * N + r → P ≤ 1000000 := fun P r e => by
    have := Nat.mul_le_mul_left P (show 1 ≤ N by omega)
    omega
  rw [← e1, ← e2] at hl
  rw [← e1] at hlen
  rcases h with ⟨P, r, hi, h⟩ | ⟨P, hi, h⟩
  · exact h.at'.ok hl hN hlen (hP P r hi)
  · exact h.at'.ok hl hN hlen (hP P 0 hi)
theorem Snap.start (t s so d who : Int) (C : List Int) (N st B : Nat) (hs : st < N) : Snap (sn0 t s so d who st N) C N st 0 B (-1) :=
  .inl ⟨0, 0, by omega, QInv.start t s so d who C N st B hs⟩
theorem Snap.store (h : Snap k C N st i B last) (hp : k.ph = 0) (C' : List Int) : Snap k C' N st i (if last = ((i / N : Nat) : Int) then B else B + 2) ((i / N : Nat) : Int) := by
  rcases h with ⟨P, r, hi, h⟩ | ⟨P, hi, h⟩
  · have e : i / N = P := by
      rw [hi, Nat.add_comm, Nat.add_mul_div_right _ _ (by have := h.at'.r1; omega), Nat.div_eq_of_lt h.at'.r1, Nat.zero_add]
    rw [e]
    exact .inl ⟨P, r, hi, h.store C'⟩
  · have := h.ph
    omega
end

theorem lay22 : Lay 2 2 4 := ⟨rfl, by omega, by omega, by omega, by omega, by omega, by omega, by omega⟩

/-- Turns as they came in. -/
theorem rows_turn7 {w : World} {a0 : Option Addr} {len cap : Nat} (h : IsRows w [.inl .i64, .inl .i64, .inl .u64] a0 len cap) (hl : 0 < len) :
    ∃ b off, ∃ X : Nat → Int × Int × Int, a0 = some ⟨b, off, none⟩ ∧ len ≤ cap ∧ b < w.heap.size ∧ ∀ i, i < len → w.cell? ⟨b, off + i * 3, none⟩ = some (i64 (X i).1) ∧ w.cell? ⟨b, off + i * 3 + 1, none⟩ = some (i64 (X i).2.1) ∧ w.cell? ⟨b, off + i * 3 + 2, none⟩ = some (u64 (X i).2.2) ∧ 0 ≤ (X i).2.2 ∧ (X i).2.2 ≤ 18446744073709551615 := by
  obtain ⟨h1, h2, h3, h4, h5⟩ := h
  obtain ⟨b, off, rfl⟩ := h4 hl
  have hx : ∀ i, ∃ x : Int × Int × Int, i < len → w.cell? ⟨b, off + i * 3, none⟩ = some (i64 x.1) ∧ w.cell? ⟨b, off + i * 3 + 1, none⟩ = some (i64 x.2.1) ∧ w.cell? ⟨b, off + i * 3 + 2, none⟩ = some (u64 x.2.2) ∧ 0 ≤ x.2.2 ∧ x.2.2 ≤ 18446744073709551615 := by
    intro i
    by_cases hi : i < len
    · obtain ⟨cs, hf, hc⟩ := h5 b off rfl i hi
      obtain ⟨c0, l0, rfl, r0, f0⟩ := fit_cons hf
      obtain ⟨c1, l1, rfl, r1, f1⟩ := fit_cons f0
      obtain ⟨c2, l2, rfl, r2, f2⟩ := fit_cons f1
      obtain ⟨x0, rfl, g0⟩ := r0
      obtain ⟨x1, rfl, g1⟩ := r1
      obtain ⟨x2, rfl, g2⟩ := r2
      exact ⟨⟨x0, x1, x2⟩, fun _ => ⟨hc 0 _ rfl, hc 1 _ rfl, hc 2 _ rfl, (bounds_u64 g2).1, (bounds_u64 g2).2⟩⟩
    · exact ⟨⟨0, 0, 0⟩, fun h => absurd h hi⟩
  obtain ⟨X, hX⟩ := Classical.axiomOfChoice hx
  exact ⟨b, off, X, rfl, h1, World.block_lt_of_cell? w _ (hX 0 hl).1, fun i hi => hX i hi⟩

theorem rows_turn7' {w : World} {a0 : Option Addr} {len cap : Nat} (h : IsRows w [.inl .i64, .inl .i64, .inl .u64] a0 len cap) :
    ∃ b off, ∃ X : Nat → Int × Int × Int, ∀ i, i < len → a0 = some ⟨b, off, none⟩ ∧ len ≤ cap ∧ b < w.heap.size ∧ w.cell? ⟨b, off + i * 3, none⟩ = some (i64 (X i).1) ∧ w.cell? ⟨b, off + i * 3 + 1, none⟩ = some (i64 (X i).2.1) ∧ w.cell? ⟨b, off + i * 3 + 2, none⟩ = some (u64 (X i).2.2) ∧ 0 ≤ (X i).2.2 ∧ (X i).2.2 ≤ 18446744073709551615 := by
  rcases Nat.eq_zero_or_pos len with h0 | h0
  · exact ⟨0, 0, fun _ => (0, 0, 0), fun i hi => by omega⟩
  · obtain ⟨b, off, X, h1, h2, h3, h4⟩ := rows_turn7 h h0
    exact ⟨b, off, X, fun i hi => ⟨h1, h2, h3, h4 i hi⟩⟩

/-- The layout's box and a turn's. -/
def AtCT7 (cb tb : Nat) (t s sl x : Int) (w : World) : Prop := AtC w cb t s 0 0 ∧ w.cell? ⟨tb, 1, none⟩ = some (i64 sl) ∧ w.cell? ⟨tb, 2, none⟩ = some (u64 x)
theorem AtCT7.keep {cb tb : Nat} {t s sl x : Int} {w w' : World} {T : Nat → Prop} (h : AtCT7 cb tb t s sl x w) (k : Keep T w w') (hc : ¬ T cb) (ht : ¬ T tb) : AtCT7 cb tb t s sl x w' :=
  ⟨h.1.keep k hc, k.cell h.2.1 ht, k.cell h.2.2 ht⟩
theorem AtCT7.later {cb tb : Nat} {t s sl x : Int} {w w' : World} (h : AtCT7 cb tb t s sl x w) (k : Below w.heap.size w w') : AtCT7 cb tb t s sl x w' :=
  h.keep (Keep.of_below (T := fun _ => False) k) (fun h => h) (fun h => h)
theorem AtCT7.made {cb : Nat} {t s : Int} {w : World} (h : AtC w cb t s 0 0) (th sl x : Int) (T : TypeId) : AtCT7 cb w.heap.size t s sl x (w.alloc (.cells #[i64 th, i64 sl, u64 x] T)) :=
  ⟨h.later (below_new (Below.refl _ _) _) (World.block_lt_of_cell? w _ h.c0), World.cell?_alloc_new w _ _ 1, World.cell?_alloc_new w _ _ 2⟩

/-- How many of these come ahead of i. -/
def cnt (f : Nat → Int) (i : Int) : Nat → Nat
  | 0 => 0
  | q + 1 => cnt f i q + if 0 ≤ f q ∧ f q < i then 1 else 0
theorem cnt_le (f : Nat → Int) (i : Int) : ∀ q, cnt f i q ≤ q
  | 0 => Nat.le_refl _
  | q + 1 => by
    have := cnt_le f i q
    unfold cnt
    split <;> omega
theorem cnt_mono (f : Nat → Int) (i : Int) : ∀ q, cnt f i q ≤ cnt f (i + 1) q
  | 0 => Nat.le_refl _
  | q + 1 => by
    have := cnt_mono f i q
    unfold cnt
    split
    · rw [if_pos (by omega)]
      omega
    · split <;> omega
theorem cnt_one (f : Nat → Int) (i : Int) (h0 : 0 ≤ i) (j : Nat) (hj : f j = i) : ∀ q, j < q → cnt f i q + 1 ≤ cnt f (i + 1) q
  | 0, h => by omega
  | q + 1, h => by
    rcases (by omega : j < q ∨ j = q) with h1 | rfl
    · have := cnt_one f i h0 j hj q h1
      unfold cnt
      split
      · rw [if_pos (by omega)]
        omega
      · split <;> omega
    · have := cnt_mono f i j
      unfold cnt
      rw [if_neg (by omega), if_pos (by omega)]
      omega


end Go.Proofs.Yticphioeipbnmaa
