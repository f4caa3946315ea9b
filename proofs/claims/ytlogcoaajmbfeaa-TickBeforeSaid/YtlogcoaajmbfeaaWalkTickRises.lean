/-
  TickRises answers true for all numbers and every list of picks, and leaves all memory that was there as it was. No condition.
-/
import Derived.Test.YtlogcoaajmbfeaaTickOrder
import Derived.Deep.DeepCutAuto
namespace Go.Proofs.Ytlogcoaajmbfeaa
open Go.RowKit
set_option linter.unusedVariables false

/-- Ints as they came in. -/
theorem rows_int {w : World} {a0 : Option Addr} {len cap : Nat} (h : IsRows w [.inl .i64] a0 len cap) (hl : 0 < len) :
    ∃ b off, ∃ X : Nat → Int, a0 = some ⟨b, off, none⟩ ∧ len ≤ cap ∧ b < w.heap.size ∧ ∀ i, i < len → w.cell? ⟨b, off + i, none⟩ = some (i64 (X i)) := by
  obtain ⟨h1, h2, h3, h4, h5⟩ := h
  obtain ⟨b, off, rfl⟩ := h4 hl
  have hx : ∀ i, ∃ x : Int, i < len → w.cell? ⟨b, off + i, none⟩ = some (i64 x) := by
    intro i
    by_cases hi : i < len
    · obtain ⟨cs, hf, hc⟩ := h5 b off rfl i hi
      obtain ⟨c0, cs', rfl, hc0, hf'⟩ := fit_cons hf
      obtain ⟨x, rfl, hx⟩ := hc0
      have := hc 0 _ rfl
      simp only [List.length_cons, List.length_nil, Nat.zero_add, Nat.mul_one, Nat.add_zero] at this
      exact ⟨x, fun _ => this⟩
    · exact ⟨0, fun h => absurd h hi⟩
  obtain ⟨X, hX⟩ := Classical.axiomOfChoice hx
  exact ⟨b, off, X, rfl, h1, World.block_lt_of_cell? w ⟨b, off + 0, none⟩ (hX 0 hl), fun i hi => hX i hi⟩

/-- Cells, two stamps that are being made, and the last one that was made: each in blocks of its own. -/
structure Raw (W wr : World) (p c : Nat) (v : Value) (C : List Int) (L : List Ev) (bo bt lb : Nat) (ko kt : Tk) (x y : Int) : Prop where
  own : Own W wr p c v C L
  ho : IsTk wr bo ko
  ht : IsTk wr bt kt
  la : At2 lb x y wr
  lf : ∀ o, wr.frozen? ⟨lb, o, none⟩ = false
  fo : ¬ Foot p c v bo
  ft : ¬ Foot p c v bt
  fl : ¬ Foot p c v lb
  d1 : bo ≠ bt
  d2 : bo ≠ lb
  d3 : bt ≠ lb
  b1 : W.heap.size ≤ bo
  b2 : W.heap.size ≤ bt
  b3 : W.heap.size ≤ lb

theorem foot_mv {wr : World} {p c : Nat} {v v' : Value} (h : Moved wr v v') {k : Nat} (hk : k < wr.heap.size) (hn : ¬ Foot p c v k) : ¬ Foot p c v' k := by
  rintro (h1 | h1 | h1)
  · exact hn (.inl h1)
  · exact hn (.inr (.inl h1))
  · rcases h k h1 with h2 | h2
    · exact hn (.inr (.inr h2))
    · omega

theorem At2.lt {b : Nat} {x y : Int} {w : World} (h : At2 b x y w) : b < w.heap.size := World.block_lt_of_cell? w _ h.1
theorem At2.keep {b : Nat} {x y : Int} {w w' : World} {T : Nat → Prop} (h : At2 b x y w) (k : Keep T w w') (hn : ¬ T b) : At2 b x y w' := ⟨k.cell h.1 hn, k.cell h.2 hn⟩

section
variable {W wr wr' : World} {p c : Nat} {v v' : Value} {C C' : List Int} {L L' : List Ev} {bo bt lb : Nat} {ko kt k' : Tk} {x y : Int}

theorem Raw.later (h : Raw W wr p c v C L bo bt lb ko kt x y) (e : Below wr.heap.size wr wr') : Raw W wr' p c v C L bo bt lb ko kt x y :=
  ⟨h.own.later e, h.ho.later e, h.ht.later e, h.la.keep (Keep.of_below (T := fun _ => False) e) (fun h => h), fun o => ((Keep.of_below (T := fun _ => False) e).frozen (a := ⟨lb, o, none⟩) h.la.lt (fun h => h)).trans (h.lf o), h.fo, h.ft, h.fl, h.d1, h.d2, h.d3, h.b1, h.b2, h.b3⟩
theorem Raw.drew (h : Raw W wr p c v C L bo bt lb ko kt x y) : Raw W wr.drew p c v C L bo bt lb ko kt x y := h.later (Below.refl _ _).drew
theorem Raw.stepO (h : Raw W wr p c v C L bo bt lb ko kt x y) (s : Stepped W.heap.size wr wr' bo p c v v' k' C' L') : Raw W wr' p c v' C' L' bo bt lb k' kt x y :=
  ⟨h.own.stepT s h.b1, s.tk, h.ht.keep s.keep (fun hi => hi.elim (fun e => h.d1 e.symm) h.ft), h.la.keep s.keep (fun hi => hi.elim (fun e => h.d2 e.symm) h.fl),
    fun o => (s.keep.frozen (a := ⟨lb, o, none⟩) h.la.lt (fun hi => hi.elim (fun e => h.d2 e.symm) h.fl)).trans (h.lf o), s.apart, foot_mv s.moved h.ht.lt h.ft, foot_mv s.moved h.la.lt h.fl, h.d1, h.d2, h.d3, h.b1, h.b2, h.b3⟩
theorem Raw.stepT (h : Raw W wr p c v C L bo bt lb ko kt x y) (s : Stepped W.heap.size wr wr' bt p c v v' k' C' L') : Raw W wr' p c v' C' L' bo bt lb ko k' x y :=
  ⟨h.own.stepT s h.b2, h.ho.keep s.keep (fun hi => hi.elim (fun e => h.d1 e) h.fo), s.tk, h.la.keep s.keep (fun hi => hi.elim (fun e => h.d3 e.symm) h.fl),
    fun o => (s.keep.frozen (a := ⟨lb, o, none⟩) h.la.lt (fun hi => hi.elim (fun e => h.d3 e.symm) h.fl)).trans (h.lf o), foot_mv s.moved h.ho.lt h.fo, s.apart, foot_mv s.moved h.la.lt h.fl, h.d1, h.d2, h.d3, h.b1, h.b2, h.b3⟩
theorem Raw.newO (h : Raw W wr p c v C L bo bt lb ko kt x y) {b' : Nat} (hT : IsTk wr' b' k') (e : Below wr.heap.size wr wr') (hb : wr.heap.size ≤ b') : Raw W wr' p c v C L b' bt lb k' kt x y :=
  have r := h.later e
  ⟨r.own, hT, r.ht, r.la, r.lf, h.own.apart hb, r.ft, r.fl, fun he => by have := h.ht.lt; omega, fun he => by have := h.la.lt; omega, r.d3, Nat.le_trans h.own.size hb, r.b2, r.b3⟩
theorem Raw.newT (h : Raw W wr p c v C L bo bt lb ko kt x y) {b' : Nat} (hT : IsTk wr' b' k') (e : Below wr.heap.size wr wr') (hb : wr.heap.size ≤ b') : Raw W wr' p c v C L bo b' lb ko k' x y :=
  have r := h.later e
  ⟨r.own, r.ho, hT, r.la, r.lf, r.fo, h.own.apart hb, r.fl, fun he => by have := h.ho.lt; omega, r.d2, fun he => by have := h.la.lt; omega, r.b1, Nat.le_trans h.own.size hb, r.b3⟩
theorem Raw.last (h : Raw W wr p c v C L bo bt lb ko kt x y) (x' y' : Int) : Raw W ((wr.setCell ⟨lb, 0, none⟩ (.int .i64 x')).setCell ⟨lb, 1, none⟩ (.int .i64 y')) p c v C L bo bt lb ko kt x' y' := by
  have hK : Keep (· = lb) wr ((wr.setCell ⟨lb, 0, none⟩ (.int .i64 x')).setCell ⟨lb, 1, none⟩ (.int .i64 y')) := ((Keep.refl _ _).own 0 _).own 1 _
  refine ⟨⟨h.own.mem.keep hK (fun i hi he => h.fl (he ▸ hi)), Nat.le_trans h.own.size hK.size, below_keep h.own.below hK h.own.size (fun i hi => hi ▸ h.b3)⟩, h.ho.keep hK (fun e => h.d2 e), h.ht.keep hK (fun e => h.d3 e), ⟨?_, ?_⟩, fun o => ?_, h.fo, h.ft, h.fl, h.d1, h.d2, h.d3, h.b1, h.b2, h.b3⟩
  · rw [World.cell?_setCell_other _ _ _ _ (by simp)]
    exact World.cell?_setCell_same _ _ _ h.la.1
  · refine World.cell?_setCell_same _ _ _ (?_ : _ = some (i64 y))
    rw [World.cell?_setCell_other _ _ _ _ (by simp)]
    exact h.la.2
  · rw [World.frozen?_setCell, World.frozen?_setCell]
    exact h.lf o
end

/-- What is known of the numbers, n picks on. -/
structure Inv (nb : Nat) (t so d who wh2 : Int) (n : Nat) (ko kt : Tk) (C : List Int) (L : List Ev) (y : Int) : Prop where
  oko : ko.Ok nb t C
  okt : kt.Ok nb t C
  go : Go1 nb ko C n n
  gt : 1 < t → Go1 nb kt C n n
  mo : Most1 C n
  be : Bel nb ko C n y
  io : ko.t = t ∧ ko.so = so ∧ ko.d = d ∧ ko.who = who
  it : kt.t = t ∧ kt.so = so ∧ kt.d = d ∧ kt.who = wh2
  sto : ko.steps ≤ n
  stt : kt.steps ≤ n
  len : L.length ≤ n

theorem ok_cells {nb : Nat} {n : Int} {k : Tk} {C C' : List Int} (h : k.Ok nb n C) (hl : C'.length = C.length) : k.Ok nb n C' :=
  ⟨h.lay, h.nt, hl.trans h.len, h.w0, h.w1, h.s0, h.s1, h.e0, h.e1, h.o0, h.o1, h.d0, h.d1, h.p0, h.p1, h.sw⟩
theorem ev_length (L : List Ev) (oe : Option Ev) : (L ++ oe.toList).length ≤ L.length + 1 := by cases oe <;> simp
theorem stp_steps' (nb : Nat) (k : Tk) (C : List Int) (now : Int) : (stp nb k C now).1.steps ≤ k.steps + 1 := by
  unfold stp
  repeat' split
  all_goals first | (simp only [fin_steps]; omega) | (simp only; omega)
theorem Go1.fresh {nb : Nat} {t so d who now M : Int} {C : List Int} (hM : 0 ≤ M) (hw : 0 ≤ who) : Go1 nb (tk0 t 1 so d who) C now M :=
  ⟨rfl, fun _ => hM, fun _ h => absurd rfl h, fun _ h => by exact absurd h (by show ¬ (3 : Int) ≤ 0; decide), fun _ h => by have : who < 0 := h; omega, fun _ h => absurd rfl h⟩

section
variable {nb : Nat} {t so d who wh2 : Int} {n : Nat} {ko kt k0 : Tk} {C : List Int} {L : List Ev} {y : Int}

/-- The other one's step. -/
theorem Inv.other (h : Inv nb t so d who wh2 n ko kt C L y) (hn : n ≤ 120) (ht1 : 1 < t) (hne : who ≠ wh2) (k' : Tk) (hk' : k' = (stp nb kt C n).1 ∧ k'.ph = 0 ∨ (stp nb kt C n).1.ph ≠ 0 ∧ k' = tk0 t 1 so d wh2) (hok : (tk0 t 1 so d wh2).Ok nb t C) :
    Inv nb t so d who wh2 (n + 1) ko k' (stp nb kt C n).2.1 (L ++ (stp nb kt C n).2.2.toList) y := by
  have e1 : ((n + 1 : Nat) : Int) = (n : Int) + 1 := by omega
  obtain ⟨ha, hm, hu⟩ := adv_step h.okt (h.gt ht1) h.mo (by omega) (by omega) (by omega) (by omega)
  obtain ⟨s1, s2, s3, s4, s5, s6⟩ := stp_same nb kt C n
  have ok' := stp_ok nb t kt C n h.okt (by have := h.stt; omega) (by omega) (fun j => (h.mo j).1)
  have hst := stp_steps' nb kt C n
  obtain ⟨i1, i2, i3, i4⟩ := h.io
  obtain ⟨j1, j2, j3, j4⟩ := h.it
  rw [j1, j2, j4] at hu
  have hgo : Go1 nb ko (stp nb kt C n).2.1 ((n + 1 : Nat) : Int) ((n + 1 : Nat) : Int) := h.go.other (by rw [i2]; exact hu) (by omega) h.oko.w0 (by have := h.oko.w1; omega) (by omega) (by omega)
  have hbe : Bel nb ko (stp nb kt C n).2.1 ((n + 1 : Nat) : Int) y := h.be.mono hu.up (by omega)
  have hlen := ev_length L (stp nb kt C n).2.2
  rcases hk' with ⟨rfl, hp⟩ | ⟨hp, rfl⟩
  · rcases ha with ⟨_, hg, _⟩ | ⟨h1, _⟩
    · exact ⟨ok_cells h.oko s6, ok', hgo, fun _ => by rw [e1]; exact hg, by rw [e1]; exact hm, hbe, ⟨i1, i2, i3, i4⟩, ⟨s1.trans j1, s3.trans j2, s4.trans j3, s5.trans j4⟩, by have := h.sto; omega, by have := h.stt; omega, by have := h.len; omega⟩
    · omega
  · exact ⟨ok_cells h.oko s6, ok_cells hok s6, hgo, fun _ => Go1.fresh (by omega) hok.w0, by rw [e1]; exact hm, hbe, ⟨i1, i2, i3, i4⟩, ⟨rfl, rfl, rfl, rfl⟩, by have := h.sto; omega, by show (0 : Int) ≤ _; omega, by have := h.len; omega⟩

/-- Its own step: it is under way still. -/
theorem Inv.same (h : Inv nb t so d who wh2 n ko kt C L y) (hn : n ≤ 120) (hne : 1 < t → who ≠ wh2) (hp : (stp nb ko C n).1.ph = 0) :
    Inv nb t so d who wh2 (n + 1) (stp nb ko C n).1 kt (stp nb ko C n).2.1 (L ++ (stp nb ko C n).2.2.toList) y := by
  have e1 : ((n + 1 : Nat) : Int) = (n : Int) + 1 := by omega
  obtain ⟨ha, hm, hu⟩ := adv_step h.oko h.go h.mo (by omega) (by omega) (by omega) (by omega)
  obtain ⟨s1, s2, s3, s4, s5, s6⟩ := stp_same nb ko C n
  have ok' := stp_ok nb t ko C n h.oko (by have := h.sto; omega) (by omega) (fun j => (h.mo j).1)
  have hst := stp_steps' nb ko C n
  obtain ⟨i1, i2, i3, i4⟩ := h.io
  obtain ⟨j1, j2, j3, j4⟩ := h.it
  rw [i1, i2, i4] at hu
  have hgt : 1 < t → Go1 nb kt (stp nb ko C n).2.1 ((n + 1 : Nat) : Int) ((n + 1 : Nat) : Int) := fun ht => (h.gt ht).other (by rw [j2]; exact hu) (by have := hne ht; omega) h.okt.w0 (by have := h.okt.w1; omega) (by omega) (by omega)
  have hlen := ev_length L (stp nb ko C n).2.2
  rcases ha with ⟨_, hg, hb⟩ | ⟨h1, _⟩
  · exact ⟨ok', ok_cells h.okt s6, by rw [e1]; exact hg, hgt, by rw [e1]; exact hm, by rw [e1]; exact hb y h.be, ⟨s1.trans i1, s3.trans i2, s4.trans i3, s5.trans i4⟩, ⟨j1, j2, j3, j4⟩, by have := h.sto; omega, by have := h.stt; omega, by have := h.len; omega⟩
  · omega

/-- Its own step: it is done, and a new one is begun. -/
theorem Inv.done (h : Inv nb t so d who wh2 n ko kt C L y) (hn : n ≤ 120) (hne : 1 < t → who ≠ wh2) (hp : (stp nb ko C n).1.ph ≠ 0) (hok : (tk0 t 1 so d who).Ok nb t C) :
    ((stp nb ko C n).1.ph = 1 ∧ y < (stp nb ko C n).1.lo) ∧ Inv nb t so d who wh2 (n + 1) (tk0 t 1 so d who) kt (stp nb ko C n).2.1 (L ++ (stp nb ko C n).2.2.toList) (stp nb ko C n).1.hi := by
  have e1 : ((n + 1 : Nat) : Int) = (n : Int) + 1 := by omega
  obtain ⟨ha, hm, hu⟩ := adv_step h.oko h.go h.mo (by omega) (by omega) (by omega) (by omega)
  obtain ⟨s1, s2, s3, s4, s5, s6⟩ := stp_same nb ko C n
  obtain ⟨i1, i2, i3, i4⟩ := h.io
  obtain ⟨j1, j2, j3, j4⟩ := h.it
  rw [i1, i2, i4] at hu
  have hgt : 1 < t → Go1 nb kt (stp nb ko C n).2.1 ((n + 1 : Nat) : Int) ((n + 1 : Nat) : Int) := fun ht => (h.gt ht).other (by rw [j2]; exact hu) (by have := hne ht; omega) h.okt.w0 (by have := h.okt.w1; omega) (by omega) (by omega)
  have hlen := ev_length L (stp nb ko C n).2.2
  rcases ha with ⟨h0, _⟩ | ⟨h1, _, _, _, hb, hf⟩
  · omega
  · exact ⟨⟨h1, hb y h.be⟩, ok_cells hok s6, ok_cells h.okt s6, Go1.fresh (by omega) hok.w0, hgt, by rw [e1]; exact hm, by rw [e1]; exact hf _ i2.symm i1.symm rfl, ⟨rfl, rfl, rfl, rfl⟩, ⟨j1, j2, j3, j4⟩, by show (0 : Int) ≤ _; omega, by have := h.stt; omega, by have := h.len; omega⟩

theorem Inv.start (t1 : 1 ≤ t) (t2 : t ≤ 4) (s0 : 0 ≤ so) (s4 : so ≤ 4) (d0 : 0 ≤ d) (d3 : d ≤ 3) (w0 : 0 ≤ who) (w1 : who < t) (v0 : 0 ≤ wh2) (v1 : wh2 < t) (hnb : (nb : Int) = 3 * t) :
    Inv nb t so d who wh2 0 (tk0 t 1 so d who) (tk0 t 1 so d wh2) (List.replicate (nb + t.toNat) 0) [] (-1) := by
  refine ⟨(solo_0 (now := 0) t1 t2 s0 s4 d0 d3 w0 w1 hnb).ok, (solo_0 (now := 0) t1 t2 s0 s4 d0 d3 v0 v1 hnb).ok, Go1.fresh (Int.le_refl _) w0, fun _ => Go1.fresh (Int.le_refl _) v0, fun j => by rw [zeros]; exact ⟨Int.le_refl _, Int.le_refl _⟩, ?_, ⟨rfl, rfl, rfl, rfl⟩, ⟨rfl, rfl, rfl, rfl⟩, Int.le_refl _, Int.le_refl _, Nat.le_refl _⟩
  unfold Bel
  split
  · rw [zeros]; decide
  · split
    · exact .inl (by show (-1 : Int) ≤ 0; decide)
    · split
      · exact ⟨fun _ => by rw [zeros]; decide, fun h => absurd rfl h⟩
      · exact ⟨fun _ => by show (-1 : Int) < 0; decide, fun h => absurd rfl h⟩
end

theorem and_1 (a : Int) : bits .and .i64 a 1 = a % 2 := by rw [show (1 : Int) = ((1 : Nat) : Int) from rfl, and_i64 a 1 1 rfl (by decide)]; rfl

set_option maxRecDepth 100000 in
set_option maxHeartbeats 20000000 in
theorem walk_TickRises (a0 : Int) (a1 : Int) (a2 : Int) (a3 : Int) (a4 : Option Addr) (len4 cap4 : Nat) (w : World) (w0 : (Lit.int .i64 a0).wf = true) (w1 : (Lit.int .i64 a1).wf = true) (w2 : (Lit.int .i64 a2).wf = true) (w3 : (Lit.int .i64 a3).wf = true) (w4 : IsRows w [.inl .i64] a4 len4 cap4) :
    Calls Try.prog 7 #[.int .i64 a0, .int .i64 a1, .int .i64 a2, .int .i64 a3, .slice a4 len4 cap4] w fun e w' => e = .returned (.bool true) ∧ Below w.heap.size w w' := by
  clear w0 w1 w2 w3
  by_cases hbig : 120 < len4
  · have hbig' : (120 : Int) < (len4 : Int) := by omega
    clear w4
    go_enter Try.func7, Try.ntmps7
    go_wp2_with fail
    refine (head5_any _).mono ?_
    rintro e w1 ⟨rfl, hb1⟩
    go_wp2_with fail
    go_ret
    exact ⟨rfl, hb1⟩
  have p0 : decide ((120 : Int) < (len4 : Int)) = false := decide_eq_false (by omega)
  have W4 := Lib.hid w4
  obtain ⟨u3, hu3, l3, g3⟩ : ∃ u, bits .and .i64 a3 65535 = u ∧ 0 ≤ u ∧ u ≤ 65535 := ⟨_, and_ffff a3, by omega, by omega⟩
  clear w4
  go_enter Try.func7, Try.ntmps7
  go_wp2_with fail
  refine (head5_any _).mono ?_
  rintro e w1 ⟨rfl, hb1⟩
  go_wp2_with fail
  refine (conf_any _ _ _ _).mono ?_
  rintro e w2 ⟨t, so, d, rfl, t1, t2, s0, s4, d0, d3, hb2⟩
  have ht0 : (t == 0) = false := by simp; omega
  have hB2 := Lib.hid (below_step hb1 hb2)
  clear hb1 hb2
  go_wp2_with fail
  have hw0 := Int.emod_nonneg u3 (show t ≠ 0 by omega)
  have hw1 := Int.emod_lt_of_pos u3 (show 0 < t by omega)
  generalize u3 % t = who at hw0 hw1 ⊢
  clear hu3 l3 g3
  have hA := AtC.made w2 t 1 so d
  have hB3 := below_new (Below.refl w2.heap.size w2) (.cells #[.int .i64 t, .int .i64 1, .int .i64 so, .int .i64 d] 26)
  have hs3 : w2.heap.size < (w2.alloc (.cells #[.int .i64 t, .int .i64 1, .int .i64 so, .int .i64 d] 26)).heap.size := by simp
  have HA := Lib.hid hA
  have HB := Lib.hid (below_step hB2.out hB3)
  have Hs := Lib.hid hs3
  clear hA hB3 hs3 hB2
  generalize w2.alloc (.cells #[.int .i64 t, .int .i64 1, .int .i64 so, .int .i64 d] 26) = W at HA HB Hs ⊢
  generalize w2.heap.size = cb at HA Hs ⊢
  clear w2 w1
  obtain ⟨nb, hnb⟩ : ∃ nb : Nat, (nb : Int) = 3 * t := ⟨(3 * t).toNat, by omega⟩
  have Hnb := Lib.hid hnb
  have hlay := Lay.of4 t1 t2
  refine (ccells_any t 1 so d t _ hlay).mono ?_
  rintro r w1 ⟨rfl, hb1⟩
  go_wp2_with fail
  refine (new_nat W.heap.size (nb + t.toNat) _ _ hb1.size (by omega) (.inl (by omega))).mono ?_
  rintro r w2 ⟨p, c, rfl, hM2, hb2, hp, hc⟩
  have hO := Own.made hb1 hM2 hb2
  clear hM2 hb2 hb1 hp hc hnb
  obtain ⟨q0, q1, q2, q3⟩ := HA.out.later hO.below Hs.out
  go_wp2_with fail
  refine (tnew_any _ t 1 so d who).mono ?_
  rintro r w3 ⟨bo, rfl, hT3, hb3, hbo⟩
  have hap := hO.apart hbo
  have hbo2 := Nat.le_trans hO.size hbo
  replace hO := hO.later hb3
  clear q0 q1 q2 q3
  obtain ⟨wh2, hv, hv0, hv1, hvn⟩ : ∃ x : Int, (who + 1).tmod t = x ∧ 0 ≤ x ∧ x < t ∧ (1 < t → who ≠ x) := by
    rw [Int.tmod_eq_emod_of_nonneg (by omega)]
    refine ⟨_, rfl, Int.emod_nonneg _ (by omega), Int.emod_lt_of_pos _ (by omega), fun ht => ?_⟩
    by_cases hl : who + 1 < t
    · rw [Int.emod_eq_of_lt (by omega) hl]; omega
    · rw [show who + 1 = t by omega, Int.emod_self]; omega
  have htn : ¬ t = 0 := by omega
  have hwr : IntKind.i64.wrap (who + 1) = who + 1 := IntWalk.i64_in _ (by omega)
  go_wp2_with fail
  refine wp_region_seqS ((fun w' => AtC w' cb t 1 so d)) ((0, true) :: (1, true) :: (2, true) :: (3, true) :: (4, true) :: (5, true) :: (6, false) :: (7, true) :: []) (by kernel_rfl) (by kernel_rfl) (by kernel_rfl) (by decide) (fun _ _ _ _ _ h => h) ((HA.out.later (hO.later (Below.refl _ _).drew).below Hs.out)) ?_
  replace hO := hO.later (Below.refl _ _).drew
  replace hT3 := hT3.drew
  repeat (first | (refine seq_take (v := ?_) rfl ?_ ?_ ?_; rotate_left 1; rfl; (focus (intro wS hSw; obtain ⟨k0, k1, k2, k3⟩ := hSw; go_simp; first | done | with_reducible rfl)); (try simp only [Act.put, List.setIfInBounds_toArray, List.set_cons_zero, List.set_cons_succ])) | (refine seq_skip rfl ?_ ?_; rfl; (try simp only [Act.put, List.setIfInBounds_toArray, List.set_cons_zero, List.set_cons_succ])))
  refine seq_run rfl (fun K hK => ?_)
  go_simp
  go_at_call 12
  refine (tnew_any _ t 1 so d wh2).mono ?_
  rintro r w5 ⟨bt, rfl, hT5, hb5, hbt⟩
  (try go_wp2_with fail)
  have hap2 := hO.apart hbt
  have hd1 : bo ≠ bt := fun e => by have := hT3.lt; omega
  have hbt2 := Nat.le_trans hO.size hbt
  replace hO := hO.later hb5
  replace hT3 := hT3.later hb5
  refine hK.out _ _ (HA.out.later hO.below Hs.out) (fun _ => ?_)
  (try simp only [Act.put, List.setIfInBounds_toArray, List.set_cons_zero, List.set_cons_succ])
  clear hK K
  repeat (first | (refine seq_take (v := ?_) rfl ?_ ?_ ?_; rotate_left 1; rfl; (focus (intro wS hSw; obtain ⟨k0, k1, k2, k3⟩ := hSw; go_simp; first | done | with_reducible rfl)); (try simp only [Act.put, List.setIfInBounds_toArray, List.set_cons_zero, List.set_cons_succ])) | (refine seq_skip rfl ?_ ?_; rfl; (try simp only [Act.put, List.setIfInBounds_toArray, List.set_cons_zero, List.set_cons_succ])))
  refine seq_done ?_
  have HV := Lib.hid hv
  have HWR := Lib.hid hwr
  clear hv hwr
  go_wp2_with fail
  have hR0 : Raw W (w5.alloc (.cells #[.int .i64 (-1), .int .i64 (-1)] 35)) p c (.slice none 0 0) (List.replicate (nb + t.toNat) 0) [] bo bt w5.heap.size (tk0 t 1 so d who) (tk0 t 1 so d wh2) (-1) (-1) := by
    have hbl : Below w5.heap.size w5 (w5.alloc (.cells #[.int .i64 (-1), .int .i64 (-1)] 35)) := below_new (Below.refl _ _) _
    exact ⟨hO.later hbl, hT3.later hbl, hT5.later hbl, ⟨World.cell?_alloc_new w5 _ _ 0, World.cell?_alloc_new w5 _ _ 1⟩, fun o => World.frozen?_alloc_at _ _ _ _ rfl, hap, hap2, hO.apart (Nat.le_refl _), hd1, fun e => by have := hT3.lt; omega, fun e => by have := hT5.lt; omega, hbo2, hbt2, hO.size⟩
  have HR0 := Lib.hid hR0
  have HI0 := Lib.hid (Inv.start (nb := nb) t1 t2 s0 s4 d0 d3 hw0 hw1 hv0 hv1 Hnb.out)
  generalize w5.heap.size = lb at HR0 ⊢
  clear hR0 hO hT3 hT5 hap hap2 hd1 hbo2 hbt2 hbo hbt hb3 hb5
  go_loopw [13, 14, 48] (fun po qt i wr => ∃ (n : Nat) (bo bt : Nat) (ko kt : Tk) (v : Value) (C : List Int) (L : List Ev) (x y : Int), n ≤ len4 ∧ i = .int .i64 n ∧ po = pt bo ∧ qt = pt bt ∧ Hid (Raw W wr p c v C L bo bt lb ko kt x y) ∧ Hid (Inv nb t so d who wh2 n ko kt C L y)) (fun _ _ i _ => 200 - (intOf i).toNat)
  case atStart => exact ⟨0, _, _, _, _, _, _, _, _, _, by omega, rfl, rfl, rfl, HR0, HI0⟩
  case round =>
    clear HR0 HI0
    obtain ⟨n, bo, bt, ko, kt, v, C, L, x, y, hn, rfl, rfl, rfl, hR, hI⟩ := hrel
    have hn120 : n ≤ 120 := by omega
    rcases Nat.lt_or_ge n len4 with hlt | hge
    · obtain ⟨tb, off, X, rfl, hcap, htb, hX⟩ := rows_int W4.out (by omega)
      have hx1 := ((below_step' HB.out hR.out.own.below HB.out.size).cell (p := ⟨tb, off + n, none⟩) htb).trans (hX n hlt)
      generalize X n = pk at hx1
      clear hX
      obtain ⟨q0, q1, q2, q3⟩ := HA.out.later hR.out.own.below Hs.out
      have hu1 := and_1 pk
      rcases (by omega : (pk % 2 = 1 ∧ 1 < t) ∨ (pk % 2 = 1 ∧ ¬ 1 < t) ∨ pk % 2 = 0) with ⟨h1, h2⟩ | ⟨h1, h2⟩ | h1
      · rw [h1] at hu1
        clear h1
        have hst := step_any W.heap.size wr bt p c v C L kt nb t n hI.out.okt (by omega) hR.out.ht hR.out.own.mem hR.out.ft hR.out.own.size (by have := hI.out.len; omega)
        have HST := Lib.hid hst
        have hok0 := (solo_0 (now := 0) t1 t2 s0 s4 d0 d3 hv0 hv1 Hnb.out).ok
        have HOK0 := Lib.hid (ok_cells (C' := C) hok0 (by have := hI.out.oko.len; rw [hI.out.io.1] at this; simpa using this))
        have HVN := Lib.hid (hvn h2)
        have Ht2 := Lib.hid h2
        clear hst hok0
        go_wp2_with fail
        refine HST.out.mono ?_
        rintro r w6 ⟨rfl, v6, hS⟩
        have hR6 := Lib.hid (hR.out.stepT hS)
        clear hS HST q0 q1 q2 q3 h2
        by_cases hp : (stp nb kt C n).1.ph = 0
        · have hI6 := Lib.hid (hI.out.other (by omega) Ht2.out HVN.out _ (.inl ⟨rfl, hp⟩) HOK0.out)
          rw [hp]
          clear hp
          go_wp2_with fail
          go_roundw
          case rel => exact ⟨n + 1, bo, bt, ko, _, v6, _, _, x, y, by omega, by go_num, rfl, rfl, hR6, hI6⟩
          case measure => simp [intOf]; omega
        · have hI6 := Lib.hid (hI.out.other (by omega) Ht2.out HVN.out _ (.inr ⟨hp, rfl⟩) HOK0.out)
          have qp : ((stp nb kt C n).1.ph != 0) = true := by simp [hp]
          clear hp
          obtain ⟨hv, hwr⟩ : (who + 1).tmod t = wh2 ∧ IntKind.i64.wrap (who + 1) = who + 1 := ⟨HV.out, HWR.out⟩
          obtain ⟨q0, q1, q2, q3⟩ := HA.out.later hR6.out.own.below Hs.out
          go_wp2_with fail
          refine wp_region_seqS ((fun w' => AtC w' cb t 1 so d)) ((0, true) :: (1, true) :: (2, true) :: (3, true) :: (4, true) :: (5, true) :: (6, false) :: (7, true) :: []) (by kernel_rfl) (by kernel_rfl) (by kernel_rfl) (by decide) (fun _ _ _ _ _ h => h) ((HA.out.later hR6.out.drew.own.below Hs.out)) ?_
          replace hR6 := Lib.hid hR6.out.drew
          clear q0 q1 q2 q3
          repeat (first | (refine seq_take (v := ?_) rfl ?_ ?_ ?_; rotate_left 1; rfl; (focus (intro wS hSw; obtain ⟨k0, k1, k2, k3⟩ := hSw; go_simp; first | done | with_reducible rfl)); (try simp only [Act.put, List.setIfInBounds_toArray, List.set_cons_zero, List.set_cons_succ])) | (refine seq_skip rfl ?_ ?_; rfl; (try simp only [Act.put, List.setIfInBounds_toArray, List.set_cons_zero, List.set_cons_succ])))
          refine seq_run rfl (fun K hK => ?_)
          go_simp
          go_at_call 12
          refine (tnew_any _ t 1 so d wh2).mono ?_
          rintro r w7 ⟨b', rfl, hT7, hb7, hbb⟩
          (try go_wp2_with fail)
          replace hR6 := Lib.hid (hR6.out.newT hT7 hb7 hbb)
          clear hT7 hb7 hbb
          refine hK.out _ _ (HA.out.later hR6.out.own.below Hs.out) (fun _ => ?_)
          (try simp only [Act.put, List.setIfInBounds_toArray, List.set_cons_zero, List.set_cons_succ])
          clear hK K
          repeat (first | (refine seq_take (v := ?_) rfl ?_ ?_ ?_; rotate_left 1; rfl; (focus (intro wS hSw; obtain ⟨k0, k1, k2, k3⟩ := hSw; go_simp; first | done | with_reducible rfl)); (try simp only [Act.put, List.setIfInBounds_toArray, List.set_cons_zero, List.set_cons_succ])) | (refine seq_skip rfl ?_ ?_; rfl; (try simp only [Act.put, List.setIfInBounds_toArray, List.set_cons_zero, List.set_cons_succ])))
          refine seq_done ?_
          clear hv hwr
          go_wp2_with fail
          go_roundw
          case rel => exact ⟨n + 1, bo, b', ko, _, v6, _, _, x, y, by omega, by go_num, rfl, rfl, hR6, hI6⟩
          case measure => simp [intOf]; omega
      · rw [h1] at hu1
        clear h1
        have hst := step_any W.heap.size wr bo p c v C L ko nb t n hI.out.oko (by omega) hR.out.ho hR.out.own.mem hR.out.fo hR.out.own.size (by have := hI.out.len; omega)
        have HST := Lib.hid hst
        clear hst
        go_wp2_with fail
        refine HST.out.mono ?_
        rintro r w6 ⟨rfl, v6, hS⟩
        have hR6 := Lib.hid (hR.out.stepO hS)
        clear hS HST q0 q1 q2 q3
        by_cases hp : (stp nb ko C n).1.ph = 0
        · have hI6 := Lib.hid (hI.out.same (by omega) hvn hp)
          rw [hp]
          clear hp
          go_wp2_with fail
          go_roundw
          case rel => exact ⟨n + 1, bo, bt, _, kt, v6, _, _, x, y, by omega, by go_num, rfl, rfl, hR6, hI6⟩
          case measure => simp [intOf]; omega
        · have hok0 := (solo_0 (now := 0) t1 t2 s0 s4 d0 d3 hw0 hw1 Hnb.out).ok
          obtain ⟨⟨hp1, hy⟩, hI6⟩ := hI.out.done (by omega) hvn hp (ok_cells hok0 (by have := hI.out.oko.len; rw [hI.out.io.1] at this; simpa using this))
          have HI6 := Lib.hid hI6
          have HY : Hid (decide (y < (stp nb ko C n).1.lo) = true) := by show _ = _; exact decide_eq_true hy
          rw [hp1]
          clear hp hp1 hy hI6 hok0
          go_wp2_with fail
          refine wp_region_seqS ((At2 lb x y)) ((0, true) :: (1, true) :: (2, false) :: (3, false) :: (4, true) :: []) (by kernel_rfl) (by kernel_rfl) (by kernel_rfl) (by decide) (fun _ _ _ _ _ h => h) (hR6.out.drew.la) ?_
          replace hR6 := Lib.hid hR6.out.drew
          repeat (first | (refine seq_take (v := ?_) rfl ?_ ?_ ?_; rotate_left 1; rfl; (focus (intro wS hSw; obtain ⟨k0, k1⟩ := hSw; go_simp; first | done | with_reducible rfl)); (try simp only [Act.put, List.setIfInBounds_toArray, List.set_cons_zero, List.set_cons_succ])) | (refine seq_skip rfl ?_ ?_; rfl; (try simp only [Act.put, List.setIfInBounds_toArray, List.set_cons_zero, List.set_cons_succ])))
          refine seq_run rfl (fun K hK => ?_)
          go_simp
          go_at_call 21
          refine (stamp_any _ bo _ hR6.out.ho).mono ?_
          rintro r w7 ⟨rfl, hb7⟩
          (try go_wp2_with fail)
          replace hR6 := Lib.hid (hR6.out.later hb7)
          clear hb7
          refine hK.out _ _ (hR6.out.la) (fun _ => ?_)
          (try simp only [Act.put, List.setIfInBounds_toArray, List.set_cons_zero, List.set_cons_succ])
          clear hK K
          repeat (first | (refine seq_take (v := ?_) rfl ?_ ?_ ?_; rotate_left 1; rfl; (focus (intro wS hSw; obtain ⟨k0, k1⟩ := hSw; go_simp; first | done | with_reducible rfl)); (try simp only [Act.put, List.setIfInBounds_toArray, List.set_cons_zero, List.set_cons_succ])) | (refine seq_skip rfl ?_ ?_; rfl; (try simp only [Act.put, List.setIfInBounds_toArray, List.set_cons_zero, List.set_cons_succ])))
          refine seq_run rfl (fun K hK => ?_)
          go_simp
          go_at_call 24
          refine (before_any x y _ _ _).mono ?_
          rintro r w8 ⟨rfl, hb8⟩
          rw [HY.out]
          (try go_wp2_with fail)
          replace hR6 := Lib.hid (hR6.out.later hb8)
          clear hb8
          refine hK.out _ _ (hR6.out.la) (fun _ => ?_)
          (try simp only [Act.put, List.setIfInBounds_toArray, List.set_cons_zero, List.set_cons_succ])
          clear hK K
          repeat (first | (refine seq_take (v := ?_) rfl ?_ ?_ ?_; rotate_left 1; rfl; (focus (intro wS hSw; obtain ⟨k0, k1⟩ := hSw; go_simp; first | done | with_reducible rfl)); (try simp only [Act.put, List.setIfInBounds_toArray, List.set_cons_zero, List.set_cons_succ])) | (refine seq_skip rfl ?_ ?_; rfl; (try simp only [Act.put, List.setIfInBounds_toArray, List.set_cons_zero, List.set_cons_succ])))
          refine seq_done ?_
          go_wp2_with fail
          refine (stamp_any _ bo _ hR6.out.ho).mono ?_
          rintro r w9 ⟨rfl, hb9⟩
          replace hR6 := Lib.hid (hR6.out.later hb9)
          clear hb9
          obtain ⟨m0, m1⟩ := hR6.out.la
          have f0 := hR6.out.lf 0
          have f1 := hR6.out.lf 1
          obtain ⟨q0, q1, q2, q3⟩ := HA.out.later hR6.out.own.below Hs.out
          have hne : ¬ cb = lb := by have := hR6.out.b3; have := Hs.out; omega
          go_wp2_with fail
          refine (tnew_any _ t 1 so d who).mono ?_
          rintro r w10 ⟨b', rfl, hT10, hb10, hbb⟩
          have hR10 := Lib.hid ((hR6.out.last _ _).newO hT10 hb10 hbb)
          clear hT10 hb10 hbb m0 m1 f0 f1 q0 q1 q2 q3 hR6
          go_wp2_with fail
          go_roundw
          case rel => exact ⟨n + 1, b', bt, _, kt, v6, _, _, _, _, by omega, by go_num, rfl, rfl, hR10, HI6⟩
          case measure => simp [intOf]; omega
      · rw [h1] at hu1
        clear h1
        have hst := step_any W.heap.size wr bo p c v C L ko nb t n hI.out.oko (by omega) hR.out.ho hR.out.own.mem hR.out.fo hR.out.own.size (by have := hI.out.len; omega)
        have HST := Lib.hid hst
        clear hst
        go_wp2_with fail
        refine HST.out.mono ?_
        rintro r w6 ⟨rfl, v6, hS⟩
        have hR6 := Lib.hid (hR.out.stepO hS)
        clear hS HST q0 q1 q2 q3
        by_cases hp : (stp nb ko C n).1.ph = 0
        · have hI6 := Lib.hid (hI.out.same (by omega) hvn hp)
          rw [hp]
          clear hp
          go_wp2_with fail
          go_roundw
          case rel => exact ⟨n + 1, bo, bt, _, kt, v6, _, _, x, y, by omega, by go_num, rfl, rfl, hR6, hI6⟩
          case measure => simp [intOf]; omega
        · have hok0 := (solo_0 (now := 0) t1 t2 s0 s4 d0 d3 hw0 hw1 Hnb.out).ok
          obtain ⟨⟨hp1, hy⟩, hI6⟩ := hI.out.done (by omega) hvn hp (ok_cells hok0 (by have := hI.out.oko.len; rw [hI.out.io.1] at this; simpa using this))
          have HI6 := Lib.hid hI6
          have HY : Hid (decide (y < (stp nb ko C n).1.lo) = true) := by show _ = _; exact decide_eq_true hy
          rw [hp1]
          clear hp hp1 hy hI6 hok0
          go_wp2_with fail
          refine wp_region_seqS ((At2 lb x y)) ((0, true) :: (1, true) :: (2, false) :: (3, false) :: (4, true) :: []) (by kernel_rfl) (by kernel_rfl) (by kernel_rfl) (by decide) (fun _ _ _ _ _ h => h) (hR6.out.drew.la) ?_
          replace hR6 := Lib.hid hR6.out.drew
          repeat (first | (refine seq_take (v := ?_) rfl ?_ ?_ ?_; rotate_left 1; rfl; (focus (intro wS hSw; obtain ⟨k0, k1⟩ := hSw; go_simp; first | done | with_reducible rfl)); (try simp only [Act.put, List.setIfInBounds_toArray, List.set_cons_zero, List.set_cons_succ])) | (refine seq_skip rfl ?_ ?_; rfl; (try simp only [Act.put, List.setIfInBounds_toArray, List.set_cons_zero, List.set_cons_succ])))
          refine seq_run rfl (fun K hK => ?_)
          go_simp
          go_at_call 21
          refine (stamp_any _ bo _ hR6.out.ho).mono ?_
          rintro r w7 ⟨rfl, hb7⟩
          (try go_wp2_with fail)
          replace hR6 := Lib.hid (hR6.out.later hb7)
          clear hb7
          refine hK.out _ _ (hR6.out.la) (fun _ => ?_)
          (try simp only [Act.put, List.setIfInBounds_toArray, List.set_cons_zero, List.set_cons_succ])
          clear hK K
          repeat (first | (refine seq_take (v := ?_) rfl ?_ ?_ ?_; rotate_left 1; rfl; (focus (intro wS hSw; obtain ⟨k0, k1⟩ := hSw; go_simp; first | done | with_reducible rfl)); (try simp only [Act.put, List.setIfInBounds_toArray, List.set_cons_zero, List.set_cons_succ])) | (refine seq_skip rfl ?_ ?_; rfl; (try simp only [Act.put, List.setIfInBounds_toArray, List.set_cons_zero, List.set_cons_succ])))
          refine seq_run rfl (fun K hK => ?_)
          go_simp
          go_at_call 24
          refine (before_any x y _ _ _).mono ?_
          rintro r w8 ⟨rfl, hb8⟩
          rw [HY.out]
          (try go_wp2_with fail)
          replace hR6 := Lib.hid (hR6.out.later hb8)
          clear hb8
          refine hK.out _ _ (hR6.out.la) (fun _ => ?_)
          (try simp only [Act.put, List.setIfInBounds_toArray, List.set_cons_zero, List.set_cons_succ])
          clear hK K
          repeat (first | (refine seq_take (v := ?_) rfl ?_ ?_ ?_; rotate_left 1; rfl; (focus (intro wS hSw; obtain ⟨k0, k1⟩ := hSw; go_simp; first | done | with_reducible rfl)); (try simp only [Act.put, List.setIfInBounds_toArray, List.set_cons_zero, List.set_cons_succ])) | (refine seq_skip rfl ?_ ?_; rfl; (try simp only [Act.put, List.setIfInBounds_toArray, List.set_cons_zero, List.set_cons_succ])))
          refine seq_done ?_
          go_wp2_with fail
          refine (stamp_any _ bo _ hR6.out.ho).mono ?_
          rintro r w9 ⟨rfl, hb9⟩
          replace hR6 := Lib.hid (hR6.out.later hb9)
          clear hb9
          obtain ⟨m0, m1⟩ := hR6.out.la
          have f0 := hR6.out.lf 0
          have f1 := hR6.out.lf 1
          obtain ⟨q0, q1, q2, q3⟩ := HA.out.later hR6.out.own.below Hs.out
          have hne : ¬ cb = lb := by have := hR6.out.b3; have := Hs.out; omega
          go_wp2_with fail
          refine (tnew_any _ t 1 so d who).mono ?_
          rintro r w10 ⟨b', rfl, hT10, hb10, hbb⟩
          have hR10 := Lib.hid ((hR6.out.last _ _).newO hT10 hb10 hbb)
          clear hT10 hb10 hbb m0 m1 f0 f1 q0 q1 q2 q3 hR6
          go_wp2_with fail
          go_roundw
          case rel => exact ⟨n + 1, b', bt, _, kt, v6, _, _, _, _, by omega, by go_num, rfl, rfl, hR10, HI6⟩
          case measure => simp [intOf]; omega
    · obtain rfl : n = len4 := by omega
      have hbf := Lib.hid (below_step' HB.out hR.out.own.below HB.out.size)
      clear hR hI
      go_wp2
      go_ret
      exact ⟨rfl, hbf.out⟩

end Go.Proofs.Ytlogcoaajmbfeaa
