/-
  TickSteps answers true for all numbers and every list of turns, and leaves all memory that was there as it was. No condition.
-/
import Derived.Test.YtlogcoaajmbfeaaTickMo
import Derived.Test.YtlogcoaajmbfeaaTickTouched
import Derived.Deep.DeepCutAuto
namespace Go.Proofs.Ytlogcoaajmbfeaa
open Go.RowKit
set_option linter.unusedVariables false

/-- Turns as they came in. -/
theorem rows_turn {w : World} {a0 : Option Addr} {len cap : Nat} (h : IsRows w [.inl .i64, .inl .u64, .inr true, .inl .i64] a0 len cap) (hl : 0 < len) :
    ∃ b off, ∃ X : Nat → Int × Int × Bool × Int, a0 = some ⟨b, off, none⟩ ∧ len ≤ cap ∧ b < w.heap.size ∧ ∀ i, i < len → w.cell? ⟨b, off + i * 4, none⟩ = some (i64 (X i).1) ∧ w.cell? ⟨b, off + i * 4 + 1, none⟩ = some (u64 (X i).2.1) ∧ w.cell? ⟨b, off + i * 4 + 2, none⟩ = some (.bool (X i).2.2.1) ∧ w.cell? ⟨b, off + i * 4 + 3, none⟩ = some (i64 (X i).2.2.2) ∧ 0 ≤ (X i).2.1 ∧ (X i).2.1 ≤ 18446744073709551615 := by
  obtain ⟨h1, h2, h3, h4, h5⟩ := h
  obtain ⟨b, off, rfl⟩ := h4 hl
  have hx : ∀ i, ∃ x : Int × Int × Bool × Int, i < len → w.cell? ⟨b, off + i * 4, none⟩ = some (i64 x.1) ∧ w.cell? ⟨b, off + i * 4 + 1, none⟩ = some (u64 x.2.1) ∧ w.cell? ⟨b, off + i * 4 + 2, none⟩ = some (.bool x.2.2.1) ∧ w.cell? ⟨b, off + i * 4 + 3, none⟩ = some (i64 x.2.2.2) ∧ 0 ≤ x.2.1 ∧ x.2.1 ≤ 18446744073709551615 := by
    intro i
    by_cases hi : i < len
    · obtain ⟨cs, hf, hc⟩ := h5 b off rfl i hi
      obtain ⟨c0, l0, rfl, r0, f0⟩ := fit_cons hf
      obtain ⟨c1, l1, rfl, r1, f1⟩ := fit_cons f0
      obtain ⟨c2, l2, rfl, r2, f2⟩ := fit_cons f1
      obtain ⟨c3, l3, rfl, r3, f3⟩ := fit_cons f2
      obtain ⟨x0, rfl, g0⟩ := r0
      obtain ⟨x1, rfl, g1⟩ := r1
      obtain ⟨x2, rfl⟩ := r2
      obtain ⟨x3, rfl, g3⟩ := r3
      exact ⟨⟨x0, x1, x2, x3⟩, fun _ => ⟨hc 0 _ rfl, hc 1 _ rfl, hc 2 _ rfl, hc 3 _ rfl, (bounds_u64 g1).1, (bounds_u64 g1).2⟩⟩
    · exact ⟨⟨0, 0, false, 0⟩, fun h => absurd h hi⟩
  obtain ⟨X, hX⟩ := Classical.axiomOfChoice hx
  exact ⟨b, off, X, rfl, h1, World.block_lt_of_cell? w _ (hX 0 hl).1, fun i hi => hX i hi⟩

/-- What is known within TickSteps: a stamp in b and the law's record in q go side by side. -/
structure Pair (W wr : World) (p c : Nat) (v : Value) (C : List Int) (L : List Ev) (b q : Nat) (k : Tk) (m : Mo) (nb : Nat) (n : Int) : Prop where
  own : Own W wr p c v C L
  tk : IsTk wr b k
  mo : IsMo wr q m
  tf : ¬ Foot p c v b
  qf : ¬ Foot p c v q
  tq : b ≠ q
  bb : W.heap.size ≤ b
  qb : W.heap.size ≤ q
  ok : k.Ok nb n C
  sync : Sync k m

section
variable {W wr wr' : World} {p c b q : Nat} {v v' : Value} {C C' : List Int} {L L' : List Ev} {k k' : Tk} {m m' : Mo} {nb : Nat} {n : Int}
theorem Pair.later (h : Pair W wr p c v C L b q k m nb n) (e : Below wr.heap.size wr wr') : Pair W wr' p c v C L b q k m nb n :=
  ⟨h.own.later e, h.tk.later e, h.mo.later e, h.tf, h.qf, h.tq, h.bb, h.qb, h.ok, h.sync⟩
theorem foot_mv (h : Moved wr v v') {k : Nat} (hk : k < wr.heap.size) (hn : ¬ Foot p c v k) : ¬ Foot p c v' k := by
  rintro (h1 | h1 | h1)
  · exact hn (.inl h1)
  · exact hn (.inr (.inl h1))
  · rcases h k h1 with h2 | h2
    · exact hn (.inr (.inr h2))
    · omega
theorem Pair.cells (h : Pair W wr p c v C L b q k m nb n) (t : Touched W.heap.size wr wr' p c v v' C' L') (hl : C'.length = C.length) : Pair W wr' p c v' C' L' b q k m nb n :=
  ⟨h.own.step t, h.tk.keep t.keep h.tf, h.mo.keep t.keep h.qf, foot_mv t.moved h.tk.lt h.tf, foot_mv t.moved h.mo.lt h.qf, h.tq, h.bb, h.qb,
    ⟨h.ok.lay, h.ok.nt, hl.trans h.ok.len, h.ok.w0, h.ok.w1, h.ok.s0, h.ok.s1, h.ok.e0, h.ok.e1, h.ok.o0, h.ok.o1, h.ok.d0, h.ok.d1, h.ok.p0, h.ok.p1, h.ok.sw⟩, h.sync⟩
/-- The record has gone on. -/
structure Half (W wr : World) (p c : Nat) (v : Value) (C : List Int) (L : List Ev) (b q : Nat) (k : Tk) (m : Mo) (nb : Nat) (n : Int) : Prop where
  own : Own W wr p c v C L
  tk : IsTk wr b k
  mo : IsMo wr q m
  tf : ¬ Foot p c v b
  qf : ¬ Foot p c v q
  tq : b ≠ q
  bb : W.heap.size ≤ b
  qb : W.heap.size ≤ q
  ok : k.Ok nb n C
theorem Pair.half (h : Pair W wr p c v C L b q k m nb n) (s : MoS W.heap.size wr wr' q p c v C L m') : Half W wr' p c v C L b q k m' nb n :=
  ⟨⟨s.mem, Nat.le_trans h.own.size s.keep.size, below_keep h.own.below s.keep h.own.size (fun i hi => hi ▸ h.qb)⟩, h.tk.keep s.keep (fun e => h.tq e), s.mo, h.tf, h.qf, h.tq, h.bb, h.qb, h.ok⟩
theorem Half.step (h : Half W wr p c v C L b q k m nb n) (s : Stepped W.heap.size wr wr' b p c v v' k' C' L') (hok : k'.Ok nb n C') (hs : Sync k' m) : Pair W wr' p c v' C' L' b q k' m nb n :=
  ⟨h.own.stepT s h.bb, s.tk, h.mo.keep s.keep (fun hi => hi.elim (fun e => h.tq e.symm) h.qf), s.apart, foot_mv s.moved h.mo.lt h.qf, h.tq, h.bb, h.qb, hok, hs⟩
theorem Half.drew (h : Half W wr p c v C L b q k m nb n) : Half W wr.drew p c v C L b q k m nb n :=
  ⟨h.own.later (Below.refl _ _).drew, h.tk.drew, h.mo.drew, h.tf, h.qf, h.tq, h.bb, h.qb, h.ok⟩
theorem Pair.drew (h : Pair W wr p c v C L b q k m nb n) : Pair W wr.drew p c v C L b q k m nb n := h.later (Below.refl _ _).drew
end

theorem and_ffffff (a : Int) : bits .and .i64 a 16777215 = a % 16777216 := by rw [show (16777215 : Int) = ((16777215 : Nat) : Int) from rfl, and_i64 a 16777215 24 rfl (by decide)]; rfl

theorem stp_prog {nb : Nat} {k : Tk} {C : List Int} {now : Int} {n : Nat} (hp : k.ph = 0) (hs : k.steps = n) (hn : (n : Int) < most k.t k.so k.d) (o0 : 0 ≤ k.so) (o4 : k.so ≤ 4) (h3 : k.so = 3 → k.steps = 0) (h4 : k.so = 4 → k.steps ≤ k.d + 1) :
    (stp nb k C now).1.ph = 0 → (stp nb k C now).1.steps = ((n + 1 : Nat) : Int) ∧ ((n + 1 : Nat) : Int) < most k.t k.so k.d := by
  rcases (by omega : k.so = 0 ∨ k.so = 1 ∨ k.so = 2 ∨ k.so = 3 ∨ k.so = 4) with h | h | h | h | h
  · rw [stp_c0 hp h]
    exact fun h => absurd h (fin_ge _ _ _)
  · have hm : most k.t k.so k.d = k.t + 1 := by rw [h]; rfl
    rw [hm] at hn ⊢
    by_cases hl : k.steps < k.t
    · rw [stp_c1l hp h hl]
      exact fun _ => ⟨by show k.steps + 1 = _; omega, by omega⟩
    · by_cases hf : k.seen + 1 < 16777215
      · rw [stp_c1d hp h hl hf]
        exact fun h => absurd h (by show ¬ (1 : Int) = 0; decide)
      · rw [stp_c1f hp h hl hf]
        exact fun h => absurd h (by show ¬ (2 : Int) = 0; decide)
  · have hm : most k.t k.so k.d = 4 := by rw [h]; rfl
    rw [hm] at hn ⊢
    by_cases h0 : k.steps = 0
    · rw [stp_c20 hp h h0]
      exact fun _ => ⟨by show k.steps + 1 = _; omega, by omega⟩
    · by_cases h1 : k.steps = 1
      · by_cases hx : low (C.getD nb 0) = k.seen
        · rw [stp_c21s hp h h1 hx]
          exact fun _ => ⟨by show k.steps + 1 = _; omega, by omega⟩
        · rw [stp_c21d hp h h1 hx]
          exact fun h => absurd h (fin_ge _ _ _)
      · by_cases h2 : k.steps = 2
        · by_cases hx : C.getD nb 0 = k.seen
          · rw [stp_c22y hp h h2 hx]
            exact fun h => absurd h (fin_ge _ _ _)
          · rw [stp_c22n hp h h2 hx]
            exact fun _ => ⟨by show k.steps + 1 = _; omega, by omega⟩
        · rw [stp_c23 hp h (by omega)]
          exact fun h => absurd h (fin_ge _ _ _)
  · rw [stp_c3 hp (.inl h)]
    exact fun h => absurd h (fin_ge _ _ _)
  · have hm : most k.t k.so k.d = k.d + 2 := by rw [h]; rfl
    rw [hm] at hn ⊢
    by_cases hd : k.d < k.steps
    · rw [stp_c3 hp (.inr ⟨h, hd⟩)]
      exact fun h => absurd h (fin_ge _ _ _)
    · rw [stp_c4 hp h (by omega)]
      exact fun _ => ⟨by show k.steps + 1 = _; omega, by omega⟩

/-- What a step's event says is so. -/
theorem stp_ev {nb : Nat} {k : Tk} {C : List Int} {now n : Int} {e : Ev} (hk : k.Ok nb n C) (h : (stp nb k C now).2.2 = some e) : e.who = k.who ∧ ∃ i : Nat, e.cell = i ∧ (stp nb k C now).2.1[i]? = some e.new := by
  have hlen := hk.len
  have hw0 := hk.w0
  have hw1 := hk.w1
  have hs0 := hk.s0
  have ht1 := hk.lay.t1
  have gset : ∀ (i : Nat) (x : Int), i < C.length → (C.set i x)[i]? = some x := fun i x hi => by rw [List.getElem?_set, if_pos rfl, if_pos hi]
  by_cases hp : k.ph = 0
  · rcases (by have := hk.o0; have := hk.o1; omega : k.so = 0 ∨ k.so = 1 ∨ k.so = 2 ∨ k.so = 3 ∨ k.so = 4) with h' | h' | h' | h' | h'
    · rw [stp_c0 hp h'] at h ⊢
      cases h
      exact ⟨rfl, nb, rfl, gset _ _ (by omega)⟩
    · by_cases hl : k.steps < k.t
      · rw [stp_c1l hp h' hl] at h ⊢
        cases h
        exact ⟨rfl, _, rfl, getD_at (by show _ < C.length; omega)⟩
      · by_cases hf : k.seen + 1 < 16777215
        · rw [stp_c1d hp h' hl hf] at h ⊢
          cases h
          exact ⟨rfl, _, rfl, gset _ _ (by omega)⟩
        · rw [stp_c1f hp h' hl hf] at h
          cases h
    · by_cases h0 : k.steps = 0
      · rw [stp_c20 hp h' h0] at h ⊢
        cases h
        exact ⟨rfl, nb, rfl, getD_at (by show _ < C.length; omega)⟩
      · by_cases h1 : k.steps = 1
        · by_cases hx : low (C.getD nb 0) = k.seen
          · rw [stp_c21s hp h' h1 hx] at h ⊢
            cases h
            exact ⟨rfl, nb, rfl, getD_at (by show _ < C.length; omega)⟩
          · rw [stp_c21d hp h' h1 hx] at h ⊢
            cases h
            exact ⟨rfl, nb, rfl, getD_at (by show _ < C.length; omega)⟩
        · by_cases h2 : k.steps = 2
          · by_cases hx : C.getD nb 0 = k.seen
            · rw [stp_c22y hp h' h2 hx] at h ⊢
              cases h
              exact ⟨rfl, nb, rfl, gset _ _ (by omega)⟩
            · rw [stp_c22n hp h' h2 hx] at h ⊢
              cases h
              exact ⟨rfl, nb, rfl, getD_at (by show _ < C.length; omega)⟩
          · rw [stp_c23 hp h' (by omega)] at h ⊢
            cases h
            exact ⟨rfl, nb, rfl, getD_at (by show _ < C.length; omega)⟩
    · rw [stp_c3 hp (.inl h')] at h
      cases h
    · by_cases hd : k.d < k.steps
      · rw [stp_c3 hp (.inr ⟨h', hd⟩)] at h
        cases h
      · rw [stp_c4 hp h' (by omega)] at h
        cases h
  · unfold stp at h
    rw [if_neg hp] at h
    cases h

/-- The layout's box and a turn's two numbers. -/
def AtCT (cb tb o : Nat) (t so d x y : Int) (w : World) : Prop := AtC w cb t 1 so d ∧ w.cell? ⟨tb, o, none⟩ = some (i64 x) ∧ w.cell? ⟨tb, o + 1, none⟩ = some (u64 y)

theorem AtCT.keep {cb tb o : Nat} {t so d x y : Int} {w w' : World} {T : Nat → Prop} (h : AtCT cb tb o t so d x y w) (k : Keep T w w') (hc : ¬ T cb) (ht : ¬ T tb) : AtCT cb tb o t so d x y w' :=
  ⟨h.1.keep k hc, k.cell h.2.1 ht, k.cell h.2.2 ht⟩
theorem Pair.rest {W wr wr' : World} {p c b q : Nat} {v v' : Value} {C : List Int} {L : List Ev} {k : Tk} {m : Mo} {nb : Nat} {n : Int} (h : Pair W wr p c v C L b q k m nb n) (s : Stepped W.heap.size wr wr' b p c v v' k C L) : Pair W wr' p c v' C L b q k m nb n :=
  ⟨h.own.stepT s h.bb, s.tk, h.mo.keep s.keep (fun hi => hi.elim (fun e => h.tq e.symm) h.qf), s.apart, foot_mv s.moved h.mo.lt h.qf, h.tq, h.bb, h.qb, h.ok, h.sync⟩

/-- How far it is. -/
def Prog (t so d who : Int) (k : Tk) (n : Nat) : Prop := k.t = t ∧ k.so = so ∧ k.d = d ∧ k.who = who ∧ (k.ph = 0 → k.steps = n ∧ (n : Int) < most t so d)

set_option maxRecDepth 100000 in
set_option maxHeartbeats 20000000 in
theorem walk_TickSteps (a0 : Int) (a1 : Int) (a2 : Int) (a3 : Int) (a4 : Option Addr) (len4 cap4 : Nat) (w : World) (w0 : (Lit.int .i64 a0).wf = true) (w1 : (Lit.int .i64 a1).wf = true) (w2 : (Lit.int .i64 a2).wf = true) (w3 : (Lit.int .i64 a3).wf = true) (w4 : IsRows w [.inl .i64, .inl .u64, .inr true, .inl .i64] a4 len4 cap4) :
    Calls Try.prog 3 #[.int .i64 a0, .int .i64 a1, .int .i64 a2, .int .i64 a3, .slice a4 len4 cap4] w fun e w' => e = .returned (.bool true) ∧ Below w.heap.size w w' := by
  clear w0 w1 w2 w3
  by_cases hbig : 20 < len4
  · have hbig' : (20 : Int) < (len4 : Int) := by omega
    clear w4
    go_enter Try.func3, Try.ntmps3
    go_wp2_with fail
    refine (head5_any _).mono ?_
    rintro e w1 ⟨rfl, hb1⟩
    go_wp2_with fail
    go_ret
    exact ⟨rfl, hb1⟩
  have p0 : decide ((20 : Int) < (len4 : Int)) = false := decide_eq_false (by omega)
  have W4 := Lib.hid w4
  obtain ⟨u3, hu3, l3, g3⟩ : ∃ u, bits .and .i64 a3 65535 = u ∧ 0 ≤ u ∧ u ≤ 65535 := ⟨_, and_ffff a3, by omega, by omega⟩
  clear w4
  go_enter Try.func3, Try.ntmps3
  go_wp2_with fail
  refine (head5_any _).mono ?_
  rintro e w1 ⟨rfl, hb1⟩
  go_wp2_with fail
  refine (conf_any _ _ _ _).mono ?_
  rintro e w2 ⟨t, so, d, rfl, t1, t2, s0, s4, d0, d3, hb2⟩
  have ht0 : (t == 0) = false := by simp; omega
  have hB2 := Lib.hid (below_step hb1 hb2)
  clear hb1 hb2
  go_wp2_with fail
  have hw0 := Int.emod_nonneg u3 (show t ≠ 0 by omega)
  have hw1 := Int.emod_lt_of_pos u3 (show 0 < t by omega)
  generalize u3 % t = who at hw0 hw1 ⊢
  clear hu3 l3 g3
  have hA := AtC.made w2 t 1 so d
  have hB3 := below_new (Below.refl w2.heap.size w2) (.cells #[.int .i64 t, .int .i64 1, .int .i64 so, .int .i64 d] 26)
  have hs3 : w2.heap.size < (w2.alloc (.cells #[.int .i64 t, .int .i64 1, .int .i64 so, .int .i64 d] 26)).heap.size := by simp
  have HA := Lib.hid hA
  have HB := Lib.hid (below_step hB2.out hB3)
  have Hs := Lib.hid hs3
  clear hA hB3 hs3 hB2
  generalize w2.alloc (.cells #[.int .i64 t, .int .i64 1, .int .i64 so, .int .i64 d] 26) = W at HA HB Hs ⊢
  generalize w2.heap.size = cb at HA Hs ⊢
  clear w2 w1
  obtain ⟨nb, hnb⟩ : ∃ nb : Nat, (nb : Int) = 3 * t := ⟨(3 * t).toNat, by omega⟩
  have Hnb := Lib.hid hnb
  have Hnb2 : Hid ((nb : Int) = 2 * t + t) := by show _ = _; omega
  have hlay := Lay.of4 t1 t2
  refine (ccells_any t 1 so d t _ hlay).mono ?_
  rintro r w1 ⟨rfl, hb1⟩
  go_wp2_with fail
  refine (new_nat W.heap.size (nb + t.toNat) _ _ hb1.size (by omega) (.inl (by omega))).mono ?_
  rintro r w2 ⟨p, c, rfl, hM2, hb2, hp, hc⟩
  have hO := Own.made hb1 hM2 hb2
  clear hM2 hb2 hb1 hp hc hnb
  obtain ⟨q0, q1, q2, q3⟩ := HA.out.later hO.below Hs.out
  go_wp2_with fail
  refine (tnew_any _ t 1 so d who).mono ?_
  rintro r w3 ⟨b, rfl, hT3, hb3, hbb⟩
  have hap := hO.apart hbb
  have hbb2 := Nat.le_trans hO.size hbb
  replace hO := hO.later hb3
  clear q0 q1 q2 q3
  obtain ⟨q0, q1, q2, q3⟩ := HA.out.later hO.below Hs.out
  go_wp2_with fail
  have hP0 : Pair W (w3.alloc (.cells #[i64 t, i64 1, i64 so, i64 d, i64 who, i64 0, i64 0, i64 0, i64 0, i64 0, i64 0, i64 0, .int .u64 0] 40)) p c (.slice none 0 0) (List.replicate (nb + t.toNat) 0) [] b w3.heap.size (tk0 t 1 so d who) ⟨t, 1, so, d, who, 0, 0, 0, 0, 0, 0, 0, 0⟩ nb t := by
    have hal := World.cell?_alloc_new w3 #[i64 t, i64 1, i64 so, i64 d, i64 who, i64 0, i64 0, i64 0, i64 0, i64 0, i64 0, i64 0, .int .u64 0] 40
    refine ⟨hO.later (below_new (Below.refl _ _) _), hT3.later (below_new (Below.refl _ _) _), ⟨hal 0, hal 1, hal 2, hal 3, hal 4, hal 5, hal 6, hal 7, hal 8, hal 9, hal 10, hal 11, hal 12, fun o => World.frozen?_alloc_at _ _ _ _ rfl⟩, hap, hO.apart (Nat.le_refl _), fun e => by have := hT3.lt; omega, hbb2, hO.size, (solo_0 (now := 0) t1 t2 s0 s4 d0 d3 hw0 hw1 Hnb.out).ok, ⟨rfl, rfl, rfl, rfl, rfl, rfl, rfl, rfl, fun _ => ⟨rfl, fun _ _ => rfl, rfl, rfl, fun _ => rfl, fun _ => by show (0 : Int) ≤ d + 1; omega⟩⟩⟩
  have HP0 := Lib.hid hP0
  have hmm : 1 ≤ most t so d ∧ most t so d ≤ 5 := by unfold most; repeat' split
                                                     all_goals omega
  obtain ⟨mm0, mm5⟩ := hmm
  have HG0 : Hid (Prog t so d who (tk0 t 1 so d who) 0) := ⟨rfl, rfl, rfl, rfl, fun _ => ⟨rfl, by omega⟩⟩
  generalize w3.heap.size = q at HP0 ⊢
  clear hP0 hO hT3 hap hb3 hbb hbb2 q0 q1 q2 q3
  go_loopw [15, 16] (fun now i wr => ∃ (n : Nat) (tm : Int) (k : Tk) (m : Mo) (v : Value) (C : List Int) (L : List Ev), i = .int .i64 n ∧ now = .int .i64 tm ∧ 0 ≤ tm ∧ tm ≤ 1073741824 ∧ Hid (Pair W wr p c v C L b q k m nb t) ∧ Hid (Prog t so d who k n) ∧ Hid (L.length ≤ 2 * n)) (fun _ i _ => 20 - (intOf i).toNat)
  case atStart => exact ⟨0, 0, _, _, _, _, _, rfl, rfl, by decide, by decide, HP0, HG0, Nat.le_refl _⟩
  case round =>
    clear HP0 HG0
    obtain ⟨n, tm, k, m, v, C, L, rfl, rfl, tm0, tm1, hP, hG, hL⟩ := hrel
    obtain ⟨q0, q1, q2, q3⟩ := HA.out.later hP.out.own.below Hs.out
    go_wp2_with fail
    refine (most_any _ t 1 so d t1 (by omega) d0 (by omega) s0 s4).mono ?_
    rintro r w4 ⟨rfl, hb4⟩
    replace hP := Lib.hid (hP.out.later hb4)
    clear hb4 q0 q1 q2 q3
    rcases Int.lt_or_le (n : Int) (most t so d + 2) with hlt | hge
    · have hn7 : n < 8 := by omega
      go_upto_if 52 with (fail)
      go_cut [15] (fun now wx => ∃ (tm' : Int) (v' : Value) (C' : List Int) (L' : List Ev), now = .int .i64 tm' ∧ 0 ≤ tm' ∧ tm' ≤ 1073741824 ∧ Hid (Pair W wx p c v' C' L' b q k m nb t) ∧ Hid (L'.length ≤ L.length + 1))
      case first =>
        have hcb := Hs.out
        have hsz := hP.out.own.size
        have hmm : m.ph = k.ph := hP.out.sync.hp
        rcases Nat.lt_or_ge n len4 with hlt4 | hge4
        · obtain ⟨tb, off, X, rfl, hcap, htb, hX⟩ := rows_turn W4.out (by omega)
          have hwW : Below w.heap.size w w4 := below_step' HB.out hP.out.own.below HB.out.size
          obtain ⟨th, x, sb, ti, hx0, hx1, hx2, hx3, z0, z1⟩ : ∃ th x sb ti, w4.cell? ⟨tb, off + n * 4, none⟩ = some (i64 th) ∧ w4.cell? ⟨tb, off + n * 4 + 1, none⟩ = some (.int .u64 x) ∧ w4.cell? ⟨tb, off + n * 4 + 2, none⟩ = some (.bool sb) ∧ w4.cell? ⟨tb, off + n * 4 + 3, none⟩ = some (i64 ti) ∧ 0 ≤ x ∧ x ≤ 18446744073709551615 := by
            obtain ⟨h0, h1, h2, h3, z0, z1⟩ := hX n hlt4
            exact ⟨_, _, _, _, (hwW.cell (p := ⟨tb, _, none⟩) htb).trans h0, (hwW.cell (p := ⟨tb, _, none⟩) htb).trans h1, (hwW.cell (p := ⟨tb, _, none⟩) htb).trans h2, (hwW.cell (p := ⟨tb, _, none⟩) htb).trans h3, z0, z1⟩
          obtain ⟨u4, hu4, l4, g4⟩ : ∃ u, bits .and .i64 ti 16777215 = u ∧ 0 ≤ u ∧ u ≤ 16777215 := ⟨_, and_ffffff ti, by omega, by omega⟩
          have htbW : tb < W.heap.size := by have := HB.out.size; omega
          clear hX hwW
          cases sb with
          | false =>
            rcases Int.lt_or_le 1073741824 (tm + 1 + u4) with hT | hT
            · go_wp2_with fail
              go_meet
              exact ⟨1073741824, v, C, L, rfl, by decide, by decide, hP, Nat.le_succ _⟩
            · go_wp2_with fail
              go_meet
              exact ⟨tm + 1 + u4, v, C, L, rfl, by omega, hT, hP, Nat.le_succ _⟩
          | true =>
            obtain ⟨u5, hu5, l5, g5⟩ : ∃ u, bits .and .i64 th 65535 = u ∧ 0 ≤ u ∧ u ≤ 65535 := ⟨_, and_ffff th, by omega, by omega⟩
            obtain ⟨j, hj, hjt⟩ : ∃ j : Nat, u5.tmod t = (j : Int) ∧ (j : Int) < t := by
              have h1 := Int.emod_nonneg u5 (show t ≠ 0 by omega)
              have h2 := Int.emod_lt_of_pos u5 (show 0 < t by omega)
              rw [Int.tmod_eq_emod_of_nonneg l5]
              exact ⟨(u5 % t).toNat, by omega, by omega⟩
            have hCT : AtCT cb tb (off + n * 4) t so d th x w4 := ⟨HA.out.later hP.out.own.below Hs.out, hx0, hx1⟩
            have HCT := Lib.hid hCT
            have htn : ¬ t = 0 := by omega
            clear hCT
            go_wp2_with fail
            refine wp_region_seqS ((AtCT cb tb (off + n * 4) t so d th x)) ((0, true) :: (1, true) :: (2, true) :: (3, true) :: (4, true) :: (5, true) :: (6, true) :: (7, true) :: (8, true) :: (9, true) :: (10, true) :: (12, true) :: (13, true) :: (14, true) :: (15, true) :: (16, true) :: (11, false) :: (17, false) :: []) (by kernel_rfl) (by kernel_rfl) (by kernel_rfl) (by decide) (fun _ _ _ _ _ h => h) ((HCT.out.keep (Keep.of_below (T := fun _ => False) (Below.refl _ _).drew) (fun h => h) (fun h => h))) ?_
            replace HCT := Lib.hid (HCT.out.keep (Keep.of_below (T := fun _ => False) (Below.refl _ _).drew) (fun h => h) (fun h => h))
            replace hP := Lib.hid hP.out.drew
            clear hx0 hx1
            repeat (first | (refine seq_take (v := ?_) rfl ?_ ?_ ?_; rotate_left 1; rfl; (focus (intro wS hSw; obtain ⟨⟨k0, k1, k2, k3⟩, kx, ky⟩ := hSw; go_simp; first | done | with_reducible rfl)); (try simp only [Act.put, List.setIfInBounds_toArray, List.set_cons_zero, List.set_cons_succ])) | (refine seq_skip rfl ?_ ?_; rfl; (try simp only [Act.put, List.setIfInBounds_toArray, List.set_cons_zero, List.set_cons_succ])))
            refine seq_run rfl (fun K hK => ?_)
            go_simp
            (try rw [hj])
            go_at_call 15
            refine (cnum_at t 1 so d t nb j _ hlay Hnb2.out (by omega)).mono ?_
            rintro r w5 ⟨rfl, hb5⟩
            (try go_wp2_with fail)
            replace HCT := Lib.hid (HCT.out.keep (Keep.of_below (T := fun _ => False) hb5) (fun h => h) (fun h => h))
            replace hP := Lib.hid (hP.out.later hb5)
            have hx3' : w5.cell? ⟨tb, off + n * 4 + 3, none⟩ = some (i64 ti) := (hb5.cell (p := ⟨tb, off + n * 4 + 3, none⟩) (by show tb < w4.heap.size; omega)).trans hx3
            have HX3 := Lib.hid hx3'
            clear hb5 hx2 hx3 hx3'
            refine hK.out _ _ (HCT.out) (fun _ => ?_)
            (try simp only [Act.put, List.setIfInBounds_toArray, List.set_cons_zero, List.set_cons_succ])
            clear hK K
            repeat (first | (refine seq_take (v := ?_) rfl ?_ ?_ ?_; rotate_left 1; rfl; (focus (intro wS hSw; obtain ⟨⟨k0, k1, k2, k3⟩, kx, ky⟩ := hSw; go_simp; first | done | with_reducible rfl)); (try simp only [Act.put, List.setIfInBounds_toArray, List.set_cons_zero, List.set_cons_succ])) | (refine seq_skip rfl ?_ ?_; rfl; (try simp only [Act.put, List.setIfInBounds_toArray, List.set_cons_zero, List.set_cons_succ])))
            refine seq_run rfl (fun K hK => ?_)
            go_simp
            go_at_call 14
            refine (store_in W.heap.size _ p c _ _ _ (-1) (nb + j) _ x hP.out.own.mem (getD_at (by have := hP.out.ok.len; have := hP.out.ok.nt; have := hG.out.1; have := Hnb2.out; omega)) hP.out.own.size (by have := hL.out; omega) z0 z1).mono ?_
            rintro r w6 ⟨rfl, v6, hT6⟩
            (try go_wp2_with fail)
            have hfc : ¬ Foot p c v cb := fun h => by have := (hP.out.own.mem.foot _ h).1; omega
            have hft : ¬ Foot p c v tb := fun h => by have := (hP.out.own.mem.foot _ h).1; omega
            replace HCT := Lib.hid (HCT.out.keep hT6.keep hfc hft)
            have hx3 := hT6.keep.cell HX3.out hft
            replace hP := Lib.hid (hP.out.cells hT6 List.length_set)
            clear hT6
            refine hK.out _ _ (HCT.out) (fun _ => ?_)
            (try simp only [Act.put, List.setIfInBounds_toArray, List.set_cons_zero, List.set_cons_succ])
            clear hK K
            refine seq_done ?_
            rcases Int.lt_or_le 1073741824 (tm + 1 + u4) with hT | hT
            · go_wp2_with fail
              go_meet
              exact ⟨1073741824, v6, _, _, rfl, by decide, by decide, hP, by show _ ≤ _; simp⟩
            · go_wp2_with fail
              go_meet
              exact ⟨tm + 1 + u4, v6, _, _, rfl, by omega, hT, hP, by show _ ≤ _; simp⟩
        · go_wp2_with fail
          go_meet
          exact ⟨tm, v, C, L, rfl, tm0, tm1, hP, Nat.le_succ _⟩
      case rest =>
        clear hP
        obtain ⟨tm', v', C', L', rfl, tn0, tn1, hP, hL'⟩ := hcut
        have hqlt := hP.out.mo.lt
        have hmm : m.ph = k.ph := hP.out.sync.hp
        have c9 := hP.out.mo.c9
        rw [hmm] at c9
        have C9 := Lib.hid c9
        have Hmm := Lib.hid hmm
        clear hmm
        go_wp2_with fail
        refine (count_any _ _ p c _ _ _ hP.out.own.mem).mono ?_
        rintro r w' ⟨rfl, rfl⟩
        by_cases hp : k.ph = 0
        · have qp : (k.ph != 0) = false := by simp [hp]
          have hpk := hG.out.2.2.2.2 hp
          have Hp := Lib.hid hp
          have Hpk := Lib.hid hpk
          clear hp hpk
          go_wp2_with fail
          refine (mo_any W.heap.size _ q p c v' C' L' k m nb t tm' hP.out.sync Hp.out hP.out.ok hP.out.mo hP.out.own.mem hP.out.qf hP.out.own.size).mono ?_
          rintro r w6 ⟨rfl, m', hms, hsy, hev⟩
          have hok := stp_ok nb t k C' tm' hP.out.ok (by have := Hpk.out.1; omega) tn0 (fun j => hP.out.own.mem.nn j)
          have hpr := stp_prog (nb := nb) (C := C') (now := tm') Hp.out Hpk.out.1 (by have := hG.out; rw [this.1, this.2.1, this.2.2.1]; exact Hpk.out.2) hP.out.ok.o0 hP.out.ok.o1 (hP.out.sync.hg Hp.out).2.2.2.2.1 (hP.out.sync.hg Hp.out).2.2.2.2.2
          have hsm := stp_same nb k C' tm'
          have hok0 := hP.out.ok
          have hst := fun W1 (hT : IsTk W1 b k) (hM : IsMem W.heap.size W1 p c v' C' L') (ha : ¬ Foot p c v' b) (hb : W.heap.size ≤ W1.heap.size) => step_any W.heap.size W1 b p c v' C' L' k nb t tm' hok0 tn0 hT hM ha hb (by have := hL'.out; have := hL.out; omega)
          have hev2 := fun e => stp_ev (nb := nb) (now := tm') (e := e) hP.out.ok
          have hH := hP.out.half hms
          generalize stp nb k C' tm' = res at hok hpr hsm hst hsy hev hev2
          obtain ⟨k', C2, oe⟩ := res
          simp only at hok hpr hsm hst hsy hev hev2
          have HST := Lib.hid hst
          have HH := Lib.hid hH
          have HOK := Lib.hid hok
          have HPR := Lib.hid hpr
          have HSM := Lib.hid hsm
          have HSY := Lib.hid hsy
          have d9 := HH.out.mo.c9
          rw [hsy.hp] at d9
          have D9 := Lib.hid d9
          clear hst hH hok hpr hsm hsy hms d9 c9 C9 hok0
          cases oe with
          | none =>
            have hcell : m'.cell = -1 := hev
            have d10 := HH.out.mo.c10
            rw [hcell] at d10
            have D10 := Lib.hid d10
            have D11 := Lib.hid HH.out.mo.c11
            have D12 := Lib.hid HH.out.mo.c12
            have hnil : L' ++ (none : Option Ev).toList = L' := List.append_nil _
            rw [hnil] at HST
            clear hev hev2 hcell d10 hnil
            go_wp2_with fail
            refine wp_region_seqS ((fun w' => w'.cell? ⟨q, 9, none⟩ = some (i64 k'.ph) ∧ w'.cell? ⟨q, 10, none⟩ = some (i64 (-1)) ∧ w'.cell? ⟨q, 11, none⟩ = some (i64 m'.op) ∧ w'.cell? ⟨q, 12, none⟩ = some (.int .u64 m'.new))) ((0, true) :: (1, true) :: (2, true) :: (4, true) :: (5, true) :: (6, true) :: (7, true) :: (3, false) :: (8, true) :: (9, true) :: (10, true) :: (11, true) :: (12, true) :: (13, true) :: (14, true) :: (15, true) :: (16, true) :: (17, true) :: (18, true) :: (19, true) :: (20, true) :: (21, true) :: (22, true) :: (23, true) :: (24, true) :: (25, false) :: (26, true) :: (27, true) :: []) (by kernel_rfl) (by kernel_rfl) (by kernel_rfl) (by decide) (fun _ _ _ _ _ h => h) (⟨D9.out, D10.out, D11.out, D12.out⟩) ?_
            replace HH := Lib.hid HH.out.drew
            repeat (first | (refine seq_take (v := ?_) rfl ?_ ?_ ?_; rotate_left 1; rfl; (focus (intro wS hSw; obtain ⟨k0, k1, k2, k3⟩ := hSw; go_simp; first | done | with_reducible rfl)); (try simp only [Act.put, List.setIfInBounds_toArray, List.set_cons_zero, List.set_cons_succ])) | (refine seq_skip rfl ?_ ?_; rfl; (try simp only [Act.put, List.setIfInBounds_toArray, List.set_cons_zero, List.set_cons_succ])))
            refine seq_run rfl (fun K hK => ?_)
            go_simp
            go_at_call 17
            refine (HST.out _ HH.out.tk HH.out.own.mem HH.out.tf HH.out.own.size).mono ?_
            rintro r w7 ⟨rfl, v7, hS⟩
            (try go_wp2_with fail)
            have hkq := fun (i : Nat) (x : Value) (hc : w6.drew.cell? ⟨q, i, none⟩ = some x) => hS.keep.cell hc (fun hi => hi.elim (fun e => HH.out.tq e.symm) HH.out.qf)
            have HKQ := Lib.hid hkq
            have hP7 := HH.out.step hS HOK.out HSY.out
            replace hP := Lib.hid hP7
            clear hkq hP7 hS
            refine hK.out _ _ (⟨HKQ.out 9 _ D9.out, HKQ.out 10 _ D10.out, HKQ.out 11 _ D11.out, HKQ.out 12 _ D12.out⟩) (fun _ => ?_)
            (try simp only [Act.put, List.setIfInBounds_toArray, List.set_cons_zero, List.set_cons_succ])
            clear hK K
            repeat (first | (refine seq_take (v := ?_) rfl ?_ ?_ ?_; rotate_left 1; rfl; (focus (intro wS hSw; obtain ⟨k0, k1, k2, k3⟩ := hSw; go_simp; first | done | with_reducible rfl)); (try simp only [Act.put, List.setIfInBounds_toArray, List.set_cons_zero, List.set_cons_succ])) | (refine seq_skip rfl ?_ ?_; rfl; (try simp only [Act.put, List.setIfInBounds_toArray, List.set_cons_zero, List.set_cons_succ])))
            refine seq_run rfl (fun K hK => ?_)
            go_simp
            go_at_call 19
            refine (touched_none W.heap.size _ p c v7 C2 L' _ _ _ hP.out.own.mem (by have := hL'.out; have := hL.out; omega)).mono ?_
            rintro r w8 ⟨rfl, hb8⟩
            (try go_wp2_with fail)
            have hkq := fun (i : Nat) (x : Value) (hc : w6.drew.cell? ⟨q, i, none⟩ = some x) => (Keep.of_below (T := fun _ => False) hb8).cell (HKQ.out i x hc) (fun h => h)
            replace HKQ := Lib.hid hkq
            replace hP := Lib.hid (hP.out.later hb8)
            clear hkq hb8
            refine hK.out _ _ (⟨HKQ.out 9 _ D9.out, HKQ.out 10 _ D10.out, HKQ.out 11 _ D11.out, HKQ.out 12 _ D12.out⟩) (fun _ => ?_)
            (try simp only [Act.put, List.setIfInBounds_toArray, List.set_cons_zero, List.set_cons_succ])
            clear hK K
            repeat (first | (refine seq_take (v := ?_) rfl ?_ ?_ ?_; rotate_left 1; rfl; (focus (intro wS hSw; obtain ⟨k0, k1, k2, k3⟩ := hSw; go_simp; first | done | with_reducible rfl)); (try simp only [Act.put, List.setIfInBounds_toArray, List.set_cons_zero, List.set_cons_succ])) | (refine seq_skip rfl ?_ ?_; rfl; (try simp only [Act.put, List.setIfInBounds_toArray, List.set_cons_zero, List.set_cons_succ])))
            refine seq_done ?_
            have d7 := hP.out.mo.c7
            have d8 := hP.out.mo.c8
            have d9 := hP.out.mo.c9
            rw [hP.out.sync.hx] at d7
            rw [hP.out.sync.hy] at d8
            rw [hP.out.sync.hp] at d9
            have D7 := Lib.hid d7
            have D8 := Lib.hid d8
            replace D9 := Lib.hid d9
            clear d7 d8 d9
            go_wp2_with fail
            refine wp_region_seqS ((fun w' => w'.cell? ⟨q, 7, none⟩ = some (i64 k'.lo) ∧ w'.cell? ⟨q, 8, none⟩ = some (i64 k'.hi) ∧ w'.cell? ⟨q, 9, none⟩ = some (i64 k'.ph))) ((0, true) :: (2, true) :: (3, true) :: (4, true) :: (5, true) :: (1, false) :: (6, true) :: (7, true) :: (8, true) :: (10, true) :: (11, true) :: (12, true) :: (13, true) :: (9, false) :: (14, true) :: (15, true) :: []) (by kernel_rfl) (by kernel_rfl) (by kernel_rfl) (by decide) (fun _ _ _ _ _ h => h) (⟨D7.out, D8.out, D9.out⟩) ?_
            replace hP := Lib.hid hP.out.drew
            repeat (first | (refine seq_take (v := ?_) rfl ?_ ?_ ?_; rotate_left 1; rfl; (focus (intro wS hSw; obtain ⟨k0, k1, k2⟩ := hSw; go_simp; first | done | with_reducible rfl)); (try simp only [Act.put, List.setIfInBounds_toArray, List.set_cons_zero, List.set_cons_succ])) | (refine seq_skip rfl ?_ ?_; rfl; (try simp only [Act.put, List.setIfInBounds_toArray, List.set_cons_zero, List.set_cons_succ])))
            refine seq_run rfl (fun K hK => ?_)
            go_simp
            go_at_call 20
            refine (phase_any _ b k' hP.out.tk).mono ?_
            rintro r w' ⟨rfl, rfl⟩
            (try go_wp2_with fail)
            refine hK.out _ _ (⟨D7.out, D8.out, D9.out⟩) (fun _ => ?_)
            (try simp only [Act.put, List.setIfInBounds_toArray, List.set_cons_zero, List.set_cons_succ])
            clear hK K
            repeat (first | (refine seq_take (v := ?_) rfl ?_ ?_ ?_; rotate_left 1; rfl; (focus (intro wS hSw; obtain ⟨k0, k1, k2⟩ := hSw; go_simp; first | done | with_reducible rfl)); (try simp only [Act.put, List.setIfInBounds_toArray, List.set_cons_zero, List.set_cons_succ])) | (refine seq_skip rfl ?_ ?_; rfl; (try simp only [Act.put, List.setIfInBounds_toArray, List.set_cons_zero, List.set_cons_succ])))
            refine seq_run rfl (fun K hK => ?_)
            go_simp
            go_at_call 21
            refine (stamp_any _ b k' hP.out.tk).mono ?_
            rintro r w9 ⟨rfl, hb9⟩
            (try go_wp2_with fail)
            have hk9 := (Keep.of_below (T := fun _ => False) hb9)
            replace D7 := Lib.hid (hk9.cell (show w8.drew.cell? ⟨q, 7, none⟩ = _ from D7.out) (fun h => h))
            replace D8 := Lib.hid (hk9.cell (show w8.drew.cell? ⟨q, 8, none⟩ = _ from D8.out) (fun h => h))
            replace D9 := Lib.hid (hk9.cell (show w8.drew.cell? ⟨q, 9, none⟩ = _ from D9.out) (fun h => h))
            replace hP := Lib.hid (hP.out.later hb9)
            clear hk9 hb9
            refine hK.out _ _ (⟨D7.out, D8.out, D9.out⟩) (fun _ => ?_)
            (try simp only [Act.put, List.setIfInBounds_toArray, List.set_cons_zero, List.set_cons_succ])
            clear hK K
            repeat (first | (refine seq_take (v := ?_) rfl ?_ ?_ ?_; rotate_left 1; rfl; (focus (intro wS hSw; obtain ⟨k0, k1, k2⟩ := hSw; go_simp; first | done | with_reducible rfl)); (try simp only [Act.put, List.setIfInBounds_toArray, List.set_cons_zero, List.set_cons_succ])) | (refine seq_skip rfl ?_ ?_; rfl; (try simp only [Act.put, List.setIfInBounds_toArray, List.set_cons_zero, List.set_cons_succ])))
            refine seq_done ?_
            go_wp2_with fail
            go_roundw
            case rel =>
              obtain ⟨g1, g2, g3, g4, g5⟩ := hG.out
              obtain ⟨e1, e2, e3, e4, e5, e6⟩ := HSM.out
              exact ⟨n + 1, tm', k', m', v7, C2, _, by go_num, rfl, tn0, tn1, hP, ⟨e1.trans g1, e3.trans g2, e4.trans g3, e5.trans g4, fun h => by have hh := HPR.out h; rw [g1, g2, g3] at hh; exact hh⟩, by show _ ≤ _; have := hL'.out; have := hL.out; simp; omega⟩
            case measure => simp [intOf]; omega
          | some e =>
            obtain ⟨hw, i, hi, hxi⟩ := hev2 e rfl
            obtain ⟨v1, v2, v3⟩ : m'.cell = e.cell ∧ m'.op = e.op ∧ m'.new = e.new := hev
            have d10 := HH.out.mo.c10
            have d11 := HH.out.mo.c11
            have d12 := HH.out.mo.c12
            rw [v1, hi] at d10
            rw [v2] at d11
            rw [v3] at d12
            have D10 := Lib.hid d10
            have D11 := Lib.hid d11
            have D12 := Lib.hid d12
            have hone : L' ++ (some e).toList = L' ++ [e] := rfl
            rw [hone] at HST
            have HW : Hid (e.who = who) := hw.trans hG.out.2.2.2.1
            have HI := Lib.hid hi
            have HXI := Lib.hid hxi
            clear hev2 hw hi hxi v1 v2 v3 d10 d11 d12 hone
            go_wp2_with fail
            refine wp_region_seqS ((fun w' => w'.cell? ⟨q, 9, none⟩ = some (i64 k'.ph) ∧ w'.cell? ⟨q, 10, none⟩ = some (i64 ((i : Int))) ∧ w'.cell? ⟨q, 11, none⟩ = some (i64 e.op) ∧ w'.cell? ⟨q, 12, none⟩ = some (.int .u64 e.new))) ((0, true) :: (1, true) :: (2, true) :: (4, true) :: (5, true) :: (6, true) :: (7, true) :: (3, false) :: (8, true) :: (9, true) :: (10, true) :: (11, true) :: (12, true) :: (13, true) :: (14, true) :: (15, true) :: (16, true) :: (17, true) :: (18, true) :: (19, true) :: (20, true) :: (21, true) :: (22, true) :: (23, true) :: (24, true) :: (25, false) :: (26, true) :: (27, true) :: []) (by kernel_rfl) (by kernel_rfl) (by kernel_rfl) (by decide) (fun _ _ _ _ _ h => h) (⟨D9.out, D10.out, D11.out, D12.out⟩) ?_
            replace HH := Lib.hid HH.out.drew
            repeat (first | (refine seq_take (v := ?_) rfl ?_ ?_ ?_; rotate_left 1; rfl; (focus (intro wS hSw; obtain ⟨k0, k1, k2, k3⟩ := hSw; go_simp; first | done | with_reducible rfl)); (try simp only [Act.put, List.setIfInBounds_toArray, List.set_cons_zero, List.set_cons_succ])) | (refine seq_skip rfl ?_ ?_; rfl; (try simp only [Act.put, List.setIfInBounds_toArray, List.set_cons_zero, List.set_cons_succ])))
            refine seq_run rfl (fun K hK => ?_)
            go_simp
            go_at_call 17
            refine (HST.out _ HH.out.tk HH.out.own.mem HH.out.tf HH.out.own.size).mono ?_
            rintro r w7 ⟨rfl, v7, hS⟩
            (try go_wp2_with fail)
            have hkq := fun (i : Nat) (x : Value) (hc : w6.drew.cell? ⟨q, i, none⟩ = some x) => hS.keep.cell hc (fun hi => hi.elim (fun e => HH.out.tq e.symm) HH.out.qf)
            have HKQ := Lib.hid hkq
            have hP7 := HH.out.step hS HOK.out HSY.out
            replace hP := Lib.hid hP7
            clear hkq hP7 hS
            refine hK.out _ _ (⟨HKQ.out 9 _ D9.out, HKQ.out 10 _ D10.out, HKQ.out 11 _ D11.out, HKQ.out 12 _ D12.out⟩) (fun _ => ?_)
            (try simp only [Act.put, List.setIfInBounds_toArray, List.set_cons_zero, List.set_cons_succ])
            clear hK K
            repeat (first | (refine seq_take (v := ?_) rfl ?_ ?_ ?_; rotate_left 1; rfl; (focus (intro wS hSw; obtain ⟨k0, k1, k2, k3⟩ := hSw; go_simp; first | done | with_reducible rfl)); (try simp only [Act.put, List.setIfInBounds_toArray, List.set_cons_zero, List.set_cons_succ])) | (refine seq_skip rfl ?_ ?_; rfl; (try simp only [Act.put, List.setIfInBounds_toArray, List.set_cons_zero, List.set_cons_succ])))
            refine seq_run rfl (fun K hK => ?_)
            go_simp
            go_at_call 19
            refine (touched_some W.heap.size _ p c v7 C2 L' who e.op e.new i L'.length e rfl hP.out.own.mem (by have := hL'.out; have := hL.out; omega) HW.out HI.out rfl rfl HXI.out).mono ?_
            rintro r w8 ⟨rfl, hb8⟩
            (try go_wp2_with fail)
            have hkq := fun (i : Nat) (x : Value) (hc : w6.drew.cell? ⟨q, i, none⟩ = some x) => (Keep.of_below (T := fun _ => False) hb8).cell (HKQ.out i x hc) (fun h => h)
            replace HKQ := Lib.hid hkq
            replace hP := Lib.hid (hP.out.later hb8)
            clear hkq hb8
            refine hK.out _ _ (⟨HKQ.out 9 _ D9.out, HKQ.out 10 _ D10.out, HKQ.out 11 _ D11.out, HKQ.out 12 _ D12.out⟩) (fun _ => ?_)
            (try simp only [Act.put, List.setIfInBounds_toArray, List.set_cons_zero, List.set_cons_succ])
            clear hK K
            repeat (first | (refine seq_take (v := ?_) rfl ?_ ?_ ?_; rotate_left 1; rfl; (focus (intro wS hSw; obtain ⟨k0, k1, k2, k3⟩ := hSw; go_simp; first | done | with_reducible rfl)); (try simp only [Act.put, List.setIfInBounds_toArray, List.set_cons_zero, List.set_cons_succ])) | (refine seq_skip rfl ?_ ?_; rfl; (try simp only [Act.put, List.setIfInBounds_toArray, List.set_cons_zero, List.set_cons_succ])))
            refine seq_done ?_
            have d7 := hP.out.mo.c7
            have d8 := hP.out.mo.c8
            have d9 := hP.out.mo.c9
            rw [hP.out.sync.hx] at d7
            rw [hP.out.sync.hy] at d8
            rw [hP.out.sync.hp] at d9
            have D7 := Lib.hid d7
            have D8 := Lib.hid d8
            replace D9 := Lib.hid d9
            clear d7 d8 d9
            go_wp2_with fail
            refine wp_region_seqS ((fun w' => w'.cell? ⟨q, 7, none⟩ = some (i64 k'.lo) ∧ w'.cell? ⟨q, 8, none⟩ = some (i64 k'.hi) ∧ w'.cell? ⟨q, 9, none⟩ = some (i64 k'.ph))) ((0, true) :: (2, true) :: (3, true) :: (4, true) :: (5, true) :: (1, false) :: (6, true) :: (7, true) :: (8, true) :: (10, true) :: (11, true) :: (12, true) :: (13, true) :: (9, false) :: (14, true) :: (15, true) :: []) (by kernel_rfl) (by kernel_rfl) (by kernel_rfl) (by decide) (fun _ _ _ _ _ h => h) (⟨D7.out, D8.out, D9.out⟩) ?_
            replace hP := Lib.hid hP.out.drew
            repeat (first | (refine seq_take (v := ?_) rfl ?_ ?_ ?_; rotate_left 1; rfl; (focus (intro wS hSw; obtain ⟨k0, k1, k2⟩ := hSw; go_simp; first | done | with_reducible rfl)); (try simp only [Act.put, List.setIfInBounds_toArray, List.set_cons_zero, List.set_cons_succ])) | (refine seq_skip rfl ?_ ?_; rfl; (try simp only [Act.put, List.setIfInBounds_toArray, List.set_cons_zero, List.set_cons_succ])))
            refine seq_run rfl (fun K hK => ?_)
            go_simp
            go_at_call 20
            refine (phase_any _ b k' hP.out.tk).mono ?_
            rintro r w' ⟨rfl, rfl⟩
            (try go_wp2_with fail)
            refine hK.out _ _ (⟨D7.out, D8.out, D9.out⟩) (fun _ => ?_)
            (try simp only [Act.put, List.setIfInBounds_toArray, List.set_cons_zero, List.set_cons_succ])
            clear hK K
            repeat (first | (refine seq_take (v := ?_) rfl ?_ ?_ ?_; rotate_left 1; rfl; (focus (intro wS hSw; obtain ⟨k0, k1, k2⟩ := hSw; go_simp; first | done | with_reducible rfl)); (try simp only [Act.put, List.setIfInBounds_toArray, List.set_cons_zero, List.set_cons_succ])) | (refine seq_skip rfl ?_ ?_; rfl; (try simp only [Act.put, List.setIfInBounds_toArray, List.set_cons_zero, List.set_cons_succ])))
            refine seq_run rfl (fun K hK => ?_)
            go_simp
            go_at_call 21
            refine (stamp_any _ b k' hP.out.tk).mono ?_
            rintro r w9 ⟨rfl, hb9⟩
            (try go_wp2_with fail)
            have hk9 := (Keep.of_below (T := fun _ => False) hb9)
            replace D7 := Lib.hid (hk9.cell (show w8.drew.cell? ⟨q, 7, none⟩ = _ from D7.out) (fun h => h))
            replace D8 := Lib.hid (hk9.cell (show w8.drew.cell? ⟨q, 8, none⟩ = _ from D8.out) (fun h => h))
            replace D9 := Lib.hid (hk9.cell (show w8.drew.cell? ⟨q, 9, none⟩ = _ from D9.out) (fun h => h))
            replace hP := Lib.hid (hP.out.later hb9)
            clear hk9 hb9
            refine hK.out _ _ (⟨D7.out, D8.out, D9.out⟩) (fun _ => ?_)
            (try simp only [Act.put, List.setIfInBounds_toArray, List.set_cons_zero, List.set_cons_succ])
            clear hK K
            repeat (first | (refine seq_take (v := ?_) rfl ?_ ?_ ?_; rotate_left 1; rfl; (focus (intro wS hSw; obtain ⟨k0, k1, k2⟩ := hSw; go_simp; first | done | with_reducible rfl)); (try simp only [Act.put, List.setIfInBounds_toArray, List.set_cons_zero, List.set_cons_succ])) | (refine seq_skip rfl ?_ ?_; rfl; (try simp only [Act.put, List.setIfInBounds_toArray, List.set_cons_zero, List.set_cons_succ])))
            refine seq_done ?_
            go_wp2_with fail
            go_roundw
            case rel =>
              obtain ⟨g1, g2, g3, g4, g5⟩ := hG.out
              obtain ⟨e1, e2, e3, e4, e5, e6⟩ := HSM.out
              exact ⟨n + 1, tm', k', m', v7, C2, _, by go_num, rfl, tn0, tn1, hP, ⟨e1.trans g1, e3.trans g2, e4.trans g3, e5.trans g4, fun h => by have hh := HPR.out h; rw [g1, g2, g3] at hh; exact hh⟩, by show _ ≤ _; have := hL'.out; have := hL.out; simp; omega⟩
            case measure => simp [intOf]; omega
        · have qp : (k.ph != 0) = true := by simp [hp]
          have Hp := Lib.hid hp
          clear hp
          go_wp2_with fail
          refine wp_region_seqS ((fun w' => w'.cell? ⟨q, 9, none⟩ = some (i64 k.ph))) ((0, true) :: (1, true) :: (2, true) :: (4, true) :: (5, true) :: (6, true) :: (7, true) :: (3, false) :: (8, true) :: (9, true) :: (10, true) :: (12, true) :: (11, false) :: (13, true) :: (14, true) :: []) (by kernel_rfl) (by kernel_rfl) (by kernel_rfl) (by decide) (fun _ _ _ _ _ h => h) (C9.out) ?_
          clear c9
          replace hP := Lib.hid hP.out.drew
          repeat (first | (refine seq_take (v := ?_) rfl ?_ ?_ ?_; rotate_left 1; rfl; (focus (intro wS hSw; skip; go_simp; first | done | with_reducible rfl)); (try simp only [Act.put, List.setIfInBounds_toArray, List.set_cons_zero, List.set_cons_succ])) | (refine seq_skip rfl ?_ ?_; rfl; (try simp only [Act.put, List.setIfInBounds_toArray, List.set_cons_zero, List.set_cons_succ])))
          refine seq_run rfl (fun K hK => ?_)
          go_simp
          go_at_call 17
          refine (step_rest W.heap.size _ b p c v' C' L' k tm' Hp.out hP.out.tk hP.out.own.mem hP.out.tf hP.out.own.size).mono ?_
          rintro r w6 ⟨rfl, v6, hS⟩
          (try go_wp2_with fail)
          have c9 := hS.keep.cell C9.out (fun hi => hi.elim (fun e => hP.out.tq e.symm) hP.out.qf)
          replace hP := Lib.hid (hP.out.rest hS)
          replace C9 := Lib.hid c9
          clear hS c9
          refine hK.out _ _ (C9.out) (fun _ => ?_)
          (try simp only [Act.put, List.setIfInBounds_toArray, List.set_cons_zero, List.set_cons_succ])
          clear hK K
          repeat (first | (refine seq_take (v := ?_) rfl ?_ ?_ ?_; rotate_left 1; rfl; (focus (intro wS hSw; skip; go_simp; first | done | with_reducible rfl)); (try simp only [Act.put, List.setIfInBounds_toArray, List.set_cons_zero, List.set_cons_succ])) | (refine seq_skip rfl ?_ ?_; rfl; (try simp only [Act.put, List.setIfInBounds_toArray, List.set_cons_zero, List.set_cons_succ])))
          refine seq_run rfl (fun K hK => ?_)
          go_simp
          go_at_call 16
          refine (count_any _ _ p c _ _ _ hP.out.own.mem).mono ?_
          rintro r w' ⟨rfl, rfl⟩
          (try go_wp2_with fail)
          refine hK.out _ _ (C9.out) (fun _ => ?_)
          (try simp only [Act.put, List.setIfInBounds_toArray, List.set_cons_zero, List.set_cons_succ])
          clear hK K
          repeat (first | (refine seq_take (v := ?_) rfl ?_ ?_ ?_; rotate_left 1; rfl; (focus (intro wS hSw; skip; go_simp; first | done | with_reducible rfl)); (try simp only [Act.put, List.setIfInBounds_toArray, List.set_cons_zero, List.set_cons_succ])) | (refine seq_skip rfl ?_ ?_; rfl; (try simp only [Act.put, List.setIfInBounds_toArray, List.set_cons_zero, List.set_cons_succ])))
          refine seq_done ?_
          go_wp2_with fail
          go_roundw
          case rel => exact ⟨n + 1, tm', k, m, v6, C', L', by go_num, rfl, tn0, tn1, hP, ⟨hG.out.1, hG.out.2.1, hG.out.2.2.1, hG.out.2.2.2.1, fun h => absurd h Hp.out⟩, by show _ ≤ _; have := hL'.out; have := hL.out; omega⟩
          case measure => simp [intOf]; omega
    · have hnp : k.ph ≠ 0 := fun h => by have := (hG.out.2.2.2.2 h).2; omega
      have hmm : m.ph = k.ph := hP.out.sync.hp
      have qp : (m.ph != 0) = true := by rw [hmm]; simp [hnp]
      have c9 := hP.out.mo.c9
      have hbf := Lib.hid (below_step' HB.out hP.out.own.below HB.out.size)
      clear hnp hmm hP hG hL
      go_wp2
      go_ret
      exact ⟨rfl, hbf.out⟩

end Go.Proofs.Ytlogcoaajmbfeaa
