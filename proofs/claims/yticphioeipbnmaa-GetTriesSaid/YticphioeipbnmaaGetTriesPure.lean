/-
  Plain lemmas on a get whose thing is taken by another one, time and again, while its hazard tells where it looks. No condition but that the layout is small.
-/
import Derived.Test.YticphioeipbnmaaGetMore
namespace Go.Proofs.Yticphioeipbnmaa
open Go.RowKit
set_option linter.unusedVariables false

/-- What it chose is gone: r = 1 ahead of its second step, 2 behind it. -/
structure GL (k : Ge) (C : List Int) (N hz : Nat) (T : Int) (r : Nat) : Prop where
  ok : k.Ok N hz C
  tries : k.tries = T
  ph : k.ph = 0
  at' : ∃ (j : Nat) (a : Ta), k.ta = some a ∧ a.slot = (j : Int) ∧ j < N ∧ C.getD j 0 % 4 = 2 ∧ C.getD j 0 ≠ a.word ∧ C.getD hz 0 = j + 1 ∧ ((r = 1 ∧ a.next = 1 ∧ a.lost = false) ∨ (r = 2 ∧ a.next = 4 ∧ a.lost = true))

section
variable {k : Ge} {N hz i : Nat} {C C0 : List Int} {z T : Int}
theorem GL.one (h : GL k C N hz T 1) (ha : k.ask C z) (hf : ∀ j, 0 ≤ C.getD j 0 ∧ C.getD j 0 ≤ 18446744073709551615) (hT : T < 1000000) : GL (k.step N hz C z) C N hz T 2 ∧ k.cells N hz C = C := by
  obtain ⟨j, a, hta, hs, hj, h4, hw, hh, hr⟩ := h.at'
  have hn : a.next = 1 ∧ a.lost = false := by
    rcases hr with ⟨_, h1⟩ | ⟨h1, _⟩
    · exact h1
    · omega
  obtain ⟨n1, _⟩ := h.ok.next ha (fun h0 => by rw [hta] at h0; cases h0) (by have := h.tries; omega) hf
  have hp := h.ph
  have ap := (h.ok.ta hp a hta).2
  have asl : a.slot.toNat = j := by rw [hs]; exact Int.toNat_natCast j
  obtain ⟨g1, g2, g3⟩ := go_1n (jv := N + j) (hz := hz) ap hn.1 hw
  have e1 : k.step N hz C z = k.grab N (a.go a.slot.toNat (N + a.slot.toNat) C) := by unfold Ge.step; rw [if_neg (by omega), hta]
  have e2 : k.cells N hz C = a.cells a.slot.toNat hz C := by unfold Ge.cells; rw [if_neg (by omega), hta]
  rw [asl] at e1 e2
  rw [g2] at e2
  have e3 : k.step N hz C z = { k with ta := some { a with next := 4, lost := true } } := by
    rw [e1, g1]
    unfold Ge.grab
    rw [if_neg (by show ¬ a.ph = 1; omega), if_neg (by show ¬ a.ph = 2; omega)]
  rw [e2] at n1
  exact ⟨⟨n1, by rw [e3]; exact h.tries, by rw [e3]; exact hp, j, { a with next := 4, lost := true }, by rw [e3], hs, hj, h4, hw, hh, .inr ⟨rfl, rfl, rfl⟩⟩, e2⟩

theorem GL.two (h : GL k C N hz T 2) (ha : k.ask C z) (hf : ∀ j, 0 ≤ C.getD j 0 ∧ C.getD j 0 ≤ 18446744073709551615) (hT : T < 1000000) : GA (k.step N hz C z) (C.set hz 0) (C.set hz 0) N hz 0 (T + 1) ∧ k.cells N hz C = C.set hz 0 := by
  obtain ⟨j, a, hta, hs, hj, h4, hw, hh, hr⟩ := h.at'
  have hn : a.next = 4 ∧ a.lost = true := by
    rcases hr with ⟨h1, _⟩ | ⟨_, h1⟩
    · omega
    · exact h1
  obtain ⟨n1, _⟩ := h.ok.next ha (fun h0 => by rw [hta] at h0; cases h0) (by have := h.tries; omega) hf
  have hp := h.ph
  have hn1 := h.ok.lay.n1
  have hn2 := h.ok.lay.n2
  have ap := (h.ok.ta hp a hta).2
  have asl : a.slot.toNat = j := by rw [hs]; exact Int.toNat_natCast j
  obtain ⟨g1, g2, g3⟩ := go_4n (j := j) (jv := N + j) (hz := hz) (C := C) ap hn.1 hn.2
  have e1 : k.step N hz C z = k.grab N (a.go a.slot.toNat (N + a.slot.toNat) C) := by unfold Ge.step; rw [if_neg (by omega), hta]
  have e2 : k.cells N hz C = a.cells a.slot.toNat hz C := by unfold Ge.cells; rw [if_neg (by omega), hta]
  rw [asl] at e1 e2
  rw [g2] at e2
  have e3 : k.step N hz C z = { k with tries := k.tries + 1, sn := sn0 k.t k.s k.so k.d k.who (IntKind.u64.wrap k.start % N) N, ta := none } := by
    rw [e1, g1]
    unfold Ge.grab
    rw [if_neg (by show ¬ (2 : Int) = 1; decide), if_pos rfl]
  rw [e2] at n1
  refine ⟨⟨n1, rfl, by rw [e3]; show k.tries + 1 = T + 1; rw [h.tries], .inl ⟨by rw [e3]; exact hp, by rw [e3], rfl, by omega, ?_⟩⟩, e2⟩
  obtain ⟨m1, m2, m5, m3, m4⟩ := start_mod k.start N (by omega) (by omega)
  obtain ⟨st, hst⟩ : ∃ st : Nat, IntKind.u64.wrap k.start % N = (st : Int) := ⟨_, (Int.toNat_of_nonneg m3).symm⟩
  refine ⟨st, ?_⟩
  rw [e3]
  show Snap (sn0 k.t k.s k.so k.d k.who (IntKind.u64.wrap k.start % N) N) _ N st 0 0 (-1)
  rw [hst]
  exact Snap.start k.t k.s k.so k.d k.who _ N st 0 (by omega)

/-- What its hazard tells. -/
theorem GA.look (h : GA k C C0 N hz i T) (h0 : C0.getD hz 0 = 0) :
    C.getD hz 0 = 0 ∨ ∃ j : Nat, j < N ∧ C.getD hz 0 = j + 1 ∧ k.ph = 0 ∧ IsEnd (C0.take N) k.e j ∧ ((i = 2 * N + 1 ∧ C = C0.set hz (j + 1) ∧ k.ta = some (tk k C0 N j 1)) ∨ 2 * N + 2 ≤ i) := by
  have hzz := h.ok.hzz
  have w0 := h.ok.w0
  have w1 := h.ok.w1
  have hlen := h.ok.len
  have hl := h.len
  have hn1 := h.ok.lay.n1
  have ht := h.ok.lay.t1
  have hlt : hz < C0.length := by omega
  rcases h.at' with ⟨_, _, hC, _⟩ | ⟨j, r, hi, hr, hp, hj, hE, hta, hC⟩ | ⟨_, _, _, hC⟩ | ⟨j, _, _, hj, _, _, _, hC⟩
  · rw [hC]
    exact .inl h0
  · rcases (by omega : r = 0 ∨ (1 ≤ r ∧ r ≤ 3) ∨ r = 4) with rfl | ⟨h1, h2⟩ | rfl
    · rw [hC]
      exact .inl h0
    · have e : C = C0.set hz (j + 1) := by rw [hC]; unfold tkC; rw [if_neg (by omega), if_pos h2]
      refine .inr ⟨j, hj, by rw [e]; exact getD_set_eq' _ hlt, hp, hE, ?_⟩
      rcases (by omega : r = 1 ∨ 2 ≤ r) with rfl | h3
      · exact .inl ⟨by omega, e, hta⟩
      · exact .inr (by omega)
    · have e : C = (C0.set hz (j + 1)).set j (tkW (C0.getD j 0)) := hC
      exact .inr ⟨j, hj, by rw [e, getD_set_ne' _ (by omega)]; exact getD_set_eq' _ hlt, hp, hE, .inr (by omega)⟩
  · rw [hC]
    exact .inl h0
  · rw [hC]
    exact .inl (getD_set_eq' _ (by rw [tkC_len]; exact hlt))

/-- A get behind n steps; S is what is there, from left to right; m is how often others take what it looks at. -/
structure GT (k : Ge) (C : List Int) (N hz n : Nat) (e : Int) (S : List Nat) (m : Nat) : Prop where
  e' : k.e = e
  at' : ∃ T : Nat, k.tries = T ∧ ((∃ C0 i, T + m ≤ 7 ∧ GA k C C0 N hz i T ∧ IsOrder (C0.take N) S ∧ C0.getD hz 0 = 0 ∧ (0 < m → i ≤ 2 * N) ∧ n ≤ T * 35 + i) ∨ (∃ r, 1 ≤ r ∧ r ≤ 2 ∧ T + m + 1 ≤ 7 ∧ GL k C N hz T r ∧ IsOrder (C.take N) S ∧ n ≤ T * 35 + 2 * N + r))

variable {n m : Nat} {S : List Nat} {e : Int}
theorem GT.start {t s so d who start : Int} (hl : Lay t s N) (hlen : (C0.length : Int) = 2 * N + 2 * t) (hhz : (hz : Int) = 2 * N + who) (w0 : 0 ≤ who) (w1 : who < t) (he : e = 0 ∨ e = 1) (hS : IsOrder (C0.take N) S) (h0 : C0.getD hz 0 = 0) (hm : m ≤ 7) : GT (ge0 t s so d who e start N) C0 N hz 0 e S m :=
  ⟨rfl, 0, rfl, .inl ⟨C0, 0, by omega, GA.start hl hlen hhz w0 w1 he, hS, h0, fun _ => by omega, by omega⟩⟩
theorem GT.ok (h : GT k C N hz n e S m) : k.Ok N hz C := by
  obtain ⟨T, h2, ⟨C0, i, h1, h3, _⟩ | ⟨r, h0, h3, h1, h4, _⟩⟩ := h.at'
  · exact h3.ok
  · exact h4.ok
theorem GT.bound (h : GT k C N hz n e S m) (hN : N ≤ 16) : n < 300 := by
  obtain ⟨T, h2, ⟨C0, i, h1, h3, _, _, _, h4⟩ | ⟨r, h0, h3, h1, h4, _, h5⟩⟩ := h.at'
  · rcases h3.cases with ⟨_, h5⟩ | ⟨h5, _⟩ | ⟨_, h5, _⟩ <;> omega
  · omega

/-- A step, and what another one does behind it. -/
theorem GT.step (h : GT k C N hz n e S m) (hp : k.ph = 0) (hN : N ≤ 16) (ha : k.ask C z) (hf : ∀ j, 0 ≤ C.getD j 0 ∧ C.getD j 0 ≤ 18446744073709551615) :
    ((k.cells N hz C).getD hz 0 = 0 ∧ GT (k.step N hz C z) (k.cells N hz C) N hz (n + 1) e S m) ∨
    (∃ j : Nat, j < N ∧ (k.cells N hz C).getD hz 0 = j + 1 ∧ (0 < m → (k.cells N hz C).getD j 0 % 4 = 2) ∧ GT (k.step N hz C z) (k.cells N hz C) N hz (n + 1) e S m) ∨
    (∃ j m' : Nat, j < N ∧ m = m' + 1 ∧ (k.cells N hz C).getD hz 0 = j + 1 ∧ (k.cells N hz C).getD j 0 % 4 = 1 ∧ GT (k.step N hz C z) ((k.cells N hz C).set j (tkW ((k.cells N hz C).getD j 0))) N hz (n + 1) e (lessS e S) m' ∧ S.length = (lessS e S).length + 1) := by
  have hse := (k.step_same N hz C z).e
  obtain ⟨T, h2, h3⟩ := h.at'
  have he' := h.e'
  rcases h3 with ⟨C0, i, h1, g1, g2, g3, g4, g5⟩ | ⟨r, r0, r1, h1, g1, g2, g3⟩
  · have G := g1.step hp ha hf (by omega)
    have hle : i < 2 * N + 5 := by
      rcases g1.cases with ⟨_, h5⟩ | ⟨_, h5, _⟩ | ⟨_, _, h5, _⟩ <;> omega
    rcases G.look g3 with h5 | ⟨j, hj, h5, h6, h7, h8⟩
    · refine .inl ⟨h5, ⟨hse.trans he', T, G.tries, .inl ⟨C0, i + 1, h1, G, g2, g3, fun hm => ?_, by omega⟩⟩⟩
      have h9 := g4 hm
      rcases (by omega : i < 2 * N ∨ i = 2 * N) with h10 | rfl
      · omega
      · exfalso
        -- at 2 N it is done, or its hazard tells the place
        rcases g1.at' with ⟨_, _, _, h11, _⟩ | ⟨j, r, h11, _, _, hj, hE, hta, hC⟩ | ⟨_, h11, _⟩ | ⟨j, h11, _⟩
        · omega
        · obtain rfl : r = 0 := by omega
          rcases G.at' with ⟨_, _, _, h12, _⟩ | ⟨j', r', h12, _, _, hj', _, _, hC'⟩ | ⟨h12, _⟩ | ⟨j', h12, _⟩
          · omega
          · obtain rfl : r' = 1 := by omega
            rw [hC'] at h5
            have h13 : (C0.set hz ((j' : Int) + 1)).getD hz 0 = 0 := h5
            rw [getD_set_eq' _ (by have := g1.ok.hzz; have := g1.ok.len; have := g1.len; have := g1.ok.w1; have := g1.ok.w0; omega)] at h13
            omega
          · omega
          · omega
        · omega
        · omega
    · rcases h8 with ⟨h8, h9, h10⟩ | h8
      · rcases (by omega : m = 0 ∨ 0 < m) with rfl | hm
        · exact .inr (.inl ⟨j, hj, h5, fun h => by omega, ⟨hse.trans he', T, G.tries, .inl ⟨C0, i + 1, h1, G, g2, g3, fun h => by omega, by omega⟩⟩⟩)
        · obtain ⟨m', rfl⟩ : ∃ m', m = m' + 1 := ⟨m - 1, by omega⟩
          have hjz : hz ≠ j := by have := g1.ok.hzz; have := g1.ok.w0; omega
          have hlen0 : N ≤ C0.length ∧ hz < C0.length := by have := g1.ok.hzz; have := g1.ok.len; have := g1.len; have := g1.ok.w1; have := g1.ok.w0; omega
          have hCj : (k.cells N hz C).getD j 0 = C0.getD j 0 := by rw [h9]; exact getD_set_ne' _ hjz
          have hlive : C0.getD j 0 % 4 = 1 := by
            rcases h7 with ⟨h, _⟩ | ⟨q, hq, _, hl, _⟩
            · omega
            · obtain rfl : j = q := by omega
              have hl' : (C0.take N).getD j 0 % 4 = 1 := hl
              rwa [getD_take hj] at hl'
          have hfx : 0 ≤ C0.getD j 0 ∧ C0.getD j 0 ≤ 18446744073709551615 := by
            have := g1.step hp ha hf (by omega)
            have hw := hf j
            have hC : C.getD j 0 = C0.getD j 0 := by
              rcases g1.at' with ⟨_, _, hC, _⟩ | ⟨j', r, h11, _, _, _, _, _, hC⟩ | ⟨_, h11, _⟩ | ⟨j', h11, _⟩
              · rw [hC]
              · obtain rfl : r = 0 := by omega
                rw [hC]
                rfl
              · omega
              · omega
            rwa [hC] at hw
          obtain ⟨f1, f2, f3⟩ := tkW_fit hfx.1 hfx.2
          have h7' : IsEnd (C0.take N) e j := by rw [← he', ← hse]; exact h7
          obtain ⟨o1, o2, o3, o4⟩ := order_less g2 h7' f1
          refine .inr (.inr ⟨j, m', hj, rfl, h5, by rw [hCj]; exact hlive, ⟨hse.trans he', T, G.tries, .inr ⟨1, by omega, by omega, by omega, ⟨G.ok.cells (by rw [List.length_set]), G.tries, h6, j, _, h10, rfl, hj, ?_, ?_, ?_, .inl ⟨rfl, rfl, rfl⟩⟩, ?_, by omega⟩⟩, o2⟩)
          · rw [getD_set_eq' _ (by rw [h9, List.length_set]; omega), hCj]
            exact f1
          · rw [getD_set_eq' _ (by rw [h9, List.length_set]; omega), hCj]
            show tkW (C0.getD j 0) ≠ C0.getD j 0
            intro h
            rw [h] at f1
            omega
          · rw [getD_set_ne' _ (by omega)]
            exact h5
          · rw [set_take_lt, hCj, h9, set_take (by have := g1.ok.hzz; have := g1.ok.w0; omega)]
            exact o1
      · have hm0 : m = 0 := by
          rcases (by omega : m = 0 ∨ 0 < m) with h | h
          · exact h
          · have := g4 h
            omega
        exact .inr (.inl ⟨j, hj, h5, fun h => by omega, ⟨hse.trans he', T, G.tries, .inl ⟨C0, i + 1, h1, G, g2, g3, fun h => by omega, by omega⟩⟩⟩)
  · obtain ⟨j, a, hta, hs, hj, h4, hw, hh, hr⟩ := g1.at'
    rcases (by omega : r = 1 ∨ r = 2) with rfl | rfl
    · obtain ⟨q1, q2⟩ := g1.one ha hf (by omega)
      rw [q2]
      exact .inr (.inl ⟨j, hj, hh, fun _ => h4, ⟨hse.trans he', T, q1.tries, .inr ⟨2, by omega, by omega, h1, q1, g2, by omega⟩⟩⟩)
    · obtain ⟨q1, q2⟩ := g1.two ha hf (by omega)
      rw [q2]
      have hlen0 : hz < C.length := by have := g1.ok.hzz; have := g1.ok.len; have := g1.ok.w1; have := g1.ok.w0; omega
      have hz0 : (C.set hz 0).getD hz 0 = 0 := getD_set_eq' _ hlen0
      have hzN : N ≤ hz := by have := g1.ok.hzz; have := g1.ok.w0; omega
      refine .inl ⟨hz0, ⟨hse.trans he', T + 1, q1.tries, .inl ⟨C.set hz 0, 0, by omega, q1, by rw [set_take hzN]; exact g2, hz0, fun _ => by omega, by omega⟩⟩⟩

/-- Where it ends. -/
theorem GT.done (h : GT k C N hz n e S m) (hp : k.ph ≠ 0) : (k.ph = 2 ∧ k.val = 0 ∧ S = []) ∨
    (∃ j : Nat, k.ph = 1 ∧ j < N ∧ k.val = C.getD (N + j) 0 ∧ k.ta ≠ none ∧ 0 < S.length ∧ (e = 0 → S.getD 0 0 = j) ∧ (e ≠ 0 → S.getD (S.length - 1) 0 = j) ∧ 0 ≤ k.tries ∧ k.tries ≤ 7) := by
  obtain ⟨T, h2, h3⟩ := h.at'
  have he' := h.e'
  rcases h3 with ⟨C0, i, h1, g1, g2, g3, g4, g5⟩ | ⟨r, r0, r1, h1, g1, g2, g3⟩
  · rcases g1.cases with ⟨h5, _⟩ | ⟨_, h5, h6, _⟩ | ⟨j, _, h5, hj, h6, h7, h8, h9⟩
    · exact absurd h5 hp
    · refine .inl ⟨h5, ?_, ?_⟩
      · unfold Ge.val
        rw [if_neg (by omega)]
      · rcases end_of_order g2 h6 with ⟨h, _⟩ | ⟨j, h, _⟩
        · exact h
        · omega
    · rcases end_of_order g2 h6 with ⟨_, h⟩ | ⟨j', h, q1, q2, q3, q4, q5⟩
      · omega
      · obtain rfl : j = j' := by omega
        have hz1 := g1.ok.hzz
        have hz2 := g1.ok.w0
        refine .inr ⟨j, h5, hj, ?_, h8, q3, fun h => q4 (he'.trans h), fun h => q5 (fun h' => h (he'.symm.trans h')), by omega, by omega⟩
        rw [h7, h9, getD_set_ne' _ (by omega)]
        show _ = ((C0.set hz (j + 1)).set j (tkW (C0.getD j 0))).getD (N + j) 0
        rw [getD_set_ne' _ (by omega), getD_set_ne' _ (by omega)]
  · exact absurd g1.ph hp
end
end Go.Proofs.Yticphioeipbnmaa
