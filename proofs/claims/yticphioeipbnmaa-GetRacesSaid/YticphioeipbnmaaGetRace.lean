/-
  Gets beside each other, where nobody puts in: what was read is what was there, or is gone for good; each place is taken by one alone; each get ends; the book of them; what a call holds that has them; the contract of the closure 'step' of GetRaces. No condition but that the layout is small.
-/
import Derived.Test.YticphioeipbnmaaGetMore
import Derived.Test.YticphioeipbnmaaRegionT
import Derived.Deep.DeepCutAuto
namespace Go.Proofs.Yticphioeipbnmaa
open Go.RowKit
set_option linter.unusedVariables false

/-- Something is in place j at first. -/
def Lv (C0 : List Int) (j : Nat) : Prop := C0.getD j 0 % 4 = 1
/-- It was taken. -/
def Gone (C C0 : List Int) (j : Nat) : Prop := C.getD j 0 = tkW (C0.getD j 0) ∧ Lv C0 j
theorem tkW_mod (x : Int) : tkW x % 4 = 2 := by
  unfold tkW
  omega
theorem Gone.ne {C C0 : List Int} {j : Nat} (h : Gone C C0 j) : C.getD j 0 ≠ C0.getD j 0 := fun e => by
  have h1 := tkW_mod (C0.getD j 0)
  have h2 : C0.getD j 0 % 4 = 1 := h.2
  rw [← h.1, e] at h1
  omega
structure CellsOk (C C0 : List Int) (N : Nat) : Prop where
  len : C.length = C0.length
  val : ∀ j, j < N → C.getD (N + j) 0 = C0.getD (N + j) 0
  word : ∀ j, j < N → C.getD j 0 = C0.getD j 0 ∨ Gone C C0 j
/-- What a read word may be. -/
def Seen (X C C0 : List Int) (j : Nat) : Prop := X.getD j 0 = C0.getD j 0 ∨ (Gone C C0 j ∧ X.getD j 0 = C.getD j 0)
/-- What is gone stays so. -/
def Mono (C C' C0 : List Int) (N : Nat) : Prop := ∀ j, j < N → Gone C C0 j → C'.getD j 0 = C.getD j 0
theorem Mono.gone {C C' C0 : List Int} {N j : Nat} (h : Mono C C' C0 N) (hj : j < N) (g : Gone C C0 j) : Gone C' C0 j := ⟨(h j hj g).trans g.1, g.2⟩
theorem Seen.mono {X C C' C0 : List Int} {N j : Nat} (h : Seen X C C0 j) (m : Mono C C' C0 N) (hj : j < N) : Seen X C' C0 j := by
  rcases h with h | ⟨h1, h2⟩
  · exact .inl h
  · exact .inr ⟨m.gone hj h1, h2.trans (m j hj h1).symm⟩

/-- A get under way, of thread th. -/
structure GetOk (k : Ge) (C C0 : List Int) (N hz : Nat) (th : Int) : Prop where
  ok : k.Ok N hz C
  ph : k.ph = 0
  who : k.who = th
  sn : k.ta = none → ∃ st r P, SnAt k.sn N st r P ∧ (∀ j, j < N → k.sn.X.getD j 0 = 0 ∨ Seen k.sn.X C C0 j) ∧ (1 ≤ P → ∀ j, j < N → Seen k.sn.X C C0 j) ∧ ∀ q, q < r → Seen k.sn.X C C0 ((st + q) % N)
  ta : ∀ a, k.ta = some a → ∃ j : Nat, a.slot = (j : Int) ∧ j < N ∧ Lv C0 j ∧ a.word = C0.getD j 0 ∧ (a.next = 3 → a.value = C0.getD (N + j) 0) ∧ (a.next = 4 → a.lost = false → a.value = C0.getD (N + j) 0 ∧ Gone C C0 j)
/-- The place that is its own already. -/
def Ge.own (k : Ge) : Option Nat := match k.ta with | none => none | some a => if a.next = 4 ∧ a.lost = false then some a.slot.toNat else none

section
variable {k : Ge} {C C' C0 : List Int} {N hz : Nat} {th z : Int}
theorem GetOk.mono (h : GetOk k C C0 N hz th) (m : Mono C C' C0 N) (hl : C'.length = C.length) : GetOk k C' C0 N hz th := by
  refine ⟨h.ok.cells hl, h.ph, h.who, fun ht => ?_, fun a ha => ?_⟩
  · obtain ⟨st, r, P, h1, h2, h3, h4⟩ := h.sn ht
    exact ⟨st, r, P, h1, fun j hj => (h2 j hj).imp id (fun h => h.mono m hj), fun hP j hj => (h3 hP j hj).mono m hj, fun q hq => (h4 q hq).mono m (Nat.mod_lt _ (by have := h1.r1; omega))⟩
  · obtain ⟨j, h1, h2, h3, h4, h5, h6⟩ := h.ta a ha
    exact ⟨j, h1, h2, h3, h4, h5, fun a b => ⟨(h6 a b).1, m.gone h2 (h6 a b).2⟩⟩
theorem GetOk.start {t s so d who e start : Int} (hl : Lay t s N) (hlen : (C.length : Int) = 2 * N + 2 * t) (hhz : (hz : Int) = 2 * N + who) (w0 : 0 ≤ who) (w1 : who < t) (he : e = 0 ∨ e = 1) : GetOk (ge0 t s so d who e start N) C C0 N hz who := by
  have hn1 := hl.n1
  have hn2 := hl.n2
  refine ⟨ge0_ok hl hlen hhz w0 w1 he, rfl, rfl, fun _ => ?_, fun a h => by cases h⟩
  obtain ⟨m1, m2, m5, m3, m4⟩ := start_mod start N (by omega) (by omega)
  obtain ⟨st, hst⟩ : ∃ st : Nat, IntKind.u64.wrap start % N = (st : Int) := ⟨_, (Int.toNat_of_nonneg m3).symm⟩
  have e1 : (ge0 t s so d who e start N).sn = sn0 t s so d who st N := by
    show sn0 t s so d who (IntKind.u64.wrap start % N) N = _
    rw [hst]
  rw [e1]
  exact ⟨st, 0, 0, sn0_at t s so d who N st (by omega), fun j hj => .inl (gzeros _ _), fun h => by omega, fun q hq => by omega⟩

theorem Seen.put {X C C0 : List Int} {N sl j : Nat} (hX : X.length = N) (hs : sl < N) (hC : CellsOk C C0 N) (h : j ≠ sl → Seen X C C0 j) : Seen (X.set sl (C.getD sl 0)) C C0 j := by
  by_cases e : j = sl
  · subst e
    rcases hC.word j hs with h1 | h1
    · exact .inl (by rw [getD_set_eq' _ (by omega)]; exact h1)
    · exact .inr ⟨h1, getD_set_eq' _ (by omega)⟩
  · rcases h e with h1 | ⟨h1, h2⟩
    · exact .inl (by rw [getD_set_ne' _ (fun h => e h.symm)]; exact h1)
    · exact .inr ⟨h1, by rw [getD_set_ne' _ (fun h => e h.symm)]; exact h2⟩

/-- What a read step comes to. -/
theorem snap_seen {sn : Sn} {st r P : Nat} (ha : SnAt sn N st r P) (hp : sn.ph = 0) (hC : CellsOk C C0 N) (h2 : ∀ j, j < N → sn.X.getD j 0 = 0 ∨ Seen sn.X C C0 j) (h3 : 1 ≤ P → ∀ j, j < N → Seen sn.X C C0 j) (h4 : ∀ q, q < r → Seen sn.X C C0 ((st + q) % N)) :
    ∃ r' P', SnAt (sn.step C) N st r' P' ∧ (∀ j, j < N → (sn.step C).X.getD j 0 = 0 ∨ Seen (sn.step C).X C C0 j) ∧ (1 ≤ P' → ∀ j, j < N → Seen (sn.step C).X C C0 j) ∧ (∀ q, q < r' → Seen (sn.step C).X C C0 ((st + q) % N)) ∧ ((sn.step C).ph = 1 → 1 ≤ P') ∧ (P' : Int) ≤ P + 1 := by
  have hsl := ha.slot
  have hlt := ha.slot_lt
  have hX := ha.X
  have all : ∀ j, j < N → (j ≠ sn.slot → Seen sn.X C C0 j) → Seen (sn.X.set sn.slot (C.getD sn.slot 0)) C C0 j := fun j hj h => Seen.put hX hlt hC h
  have or2 : ∀ j, j < N → (sn.X.set sn.slot (C.getD sn.slot 0)).getD j 0 = 0 ∨ Seen (sn.X.set sn.slot (C.getD sn.slot 0)) C C0 j := fun j hj => by
    by_cases e : j = sn.slot
    · exact .inr (all j hj (fun h => absurd e h))
    · rcases h2 j hj with h | h
      · exact .inl (by rw [getD_set_ne' _ (fun h => e h.symm)]; exact h)
      · exact .inr (all j hj (fun _ => h))
  have vis : ∀ q, q < r + 1 → r + 1 ≤ N → Seen (sn.X.set sn.slot (C.getD sn.slot 0)) C C0 ((st + q) % N) := fun q hq hr => by
    refine all _ (Nat.mod_lt _ (by omega)) (fun hne => ?_)
    by_cases e : q = r
    · subst e
      exact absurd hsl.symm hne
    · exact h4 q (by omega)
  rcases (by have := ha.r1; omega : r + 1 < N ∨ r + 1 = N) with hr | hr
  · obtain ⟨m1, m2, m3, m4, m5⟩ := ha.mid (C := C) hp hr
    rw [m4]
    exact ⟨r + 1, P, m1, or2, fun hP j hj => all j hj (fun _ => h3 hP j hj), fun q hq => vis q hq (by omega), fun h => by omega, by omega⟩
  · obtain ⟨m1, m3, m4, m6, m7⟩ := ha.last (C := C) hp hr
    rw [m4]
    refine ⟨0, P + 1, m1, or2, fun _ j hj => ?_, fun q hq => by omega, fun _ => by omega, by omega⟩
    obtain ⟨q, hq, rfl⟩ := slot_sur ha.s1 hj
    exact vis q (by omega) (by omega)

/-- A step of one. -/
theorem GetOk.step (h : GetOk k C C0 N hz th) (hC : CellsOk C C0 N) (ha : k.ask C z) (hf : ∀ j, 0 ≤ C.getD j 0 ∧ C.getD j 0 ≤ 18446744073709551615) (hp : k.sn.passes < 1000000) (ht : k.tries < 1000000) :
    CellsOk (k.cells N hz C) C0 N ∧ Mono C (k.cells N hz C) C0 N ∧
    (((k.step N hz C z).ph = 0 ∧ GetOk (k.step N hz C z) (k.cells N hz C) C0 N hz th ∧
        (((k.step N hz C z).own = k.own ∧ ∀ i, i < N → (k.cells N hz C).getD i 0 = C.getD i 0) ∨
          (k.own = none ∧ ∃ j, j < N ∧ (k.step N hz C z).own = some j ∧ ¬ Gone C C0 j ∧ Gone (k.cells N hz C) C0 j ∧ ∀ i, i < N → i ≠ j → (k.cells N hz C).getD i 0 = C.getD i 0))) ∨
      ((k.step N hz C z).ph = 1 ∧ (∃ j, k.own = some j ∧ (k.step N hz C z).val = C0.getD (N + j) 0) ∧ (k.step N hz C z).ta ≠ none ∧ ∀ i, i < N → (k.cells N hz C).getD i 0 = C.getD i 0) ∨
      ((k.step N hz C z).ph = 2 ∧ k.own = none ∧ (∀ i, i < N → (k.cells N hz C).getD i 0 = C.getD i 0) ∧ ∀ j, j < N → Lv C0 j → Gone C C0 j)) := by
  obtain ⟨n1, n2, n3, n4⟩ := h.ok.next ha (fun _ => hp) ht hf
  have hph := h.ph
  have hzz := h.ok.hzz
  have w0 := h.ok.w0
  have w1 := h.ok.w1
  have hlen := h.ok.len
  have hzN : 2 * N ≤ hz := by omega
  have hn1 := h.ok.lay.n1
  have hnp : ¬ k.ph ≠ 0 := by omega
  have hwho := (k.step_same N hz C z).who.trans h.who
  cases hta : k.ta with
  | none =>
    have e1 : k.step N hz C z = k.read (k.sn.step C) z := by unfold Ge.step; rw [if_neg hnp, hta]
    have e2 : k.cells N hz C = C := by unfold Ge.cells; rw [if_neg hnp, hta]
    have ow : k.own = none := by unfold Ge.own; rw [hta]
    obtain ⟨st, r, P, h1, h2, h3, h4⟩ := h.sn hta
    obtain ⟨s1, s2⟩ := h.ok.sn hph hta
    obtain ⟨r', P', g1, g2, g3, g4, g5, g6⟩ := snap_seen h1 s2 hC h2 h3 h4
    rw [e2] at n1 ⊢
    refine ⟨hC, fun j hj _ => rfl, ?_⟩
    by_cases hd : (k.sn.step C).ph = 1
    · have e3 : k.step N hz C z = if z < 0 then { k with sn := k.sn.step C, ph := 2 } else { k with sn := k.sn.step C, ta := some (ta0 k.t k.s k.so k.d k.who z ((k.sn.step C).X.getD z.toNat 0)) } := by
        rw [e1]
        unfold Ge.read
        rw [if_neg (fun h => h hd)]
      have hE := ha hph hta hd
      have hse := g3 (g5 hd)
      have hXl := g1.X
      rcases hE with ⟨hz1, hno⟩ | ⟨j, rfl, hj, hlv, _⟩
      · rw [if_pos (by omega)] at e3
        refine .inr (.inr ⟨by rw [e3], ow, fun i hi => rfl, fun j hj hl => ?_⟩)
        rcases hse j hj with h9 | ⟨h9, _⟩
        · exfalso
          refine hno j (by omega) ?_
          show (k.sn.step C).X.getD j 0 % 4 = 1
          rw [h9]
          exact hl
        · exact h9
      · rw [if_neg (by omega), Int.toNat_natCast] at e3
        have hlv' : (k.sn.step C).X.getD j 0 % 4 = 1 := hlv
        have hj' : j < N := by omega
        have hX0 : (k.sn.step C).X.getD j 0 = C0.getD j 0 ∧ Lv C0 j := by
          rcases hse j hj' with h9 | ⟨h9, h10⟩
          · exact ⟨h9, by show C0.getD j 0 % 4 = 1; rw [← h9]; exact hlv'⟩
          · exfalso
            have := tkW_mod (C0.getD j 0)
            rw [h10, h9.1] at hlv'
            omega
        refine .inl ⟨by rw [e3]; exact hph, ⟨n1, by rw [e3]; exact hph, hwho, (fun h => by rw [e3] at h; cases h), fun a h => ?_⟩, .inl ⟨?_, fun _ _ => rfl⟩⟩
        · rw [e3] at h
          cases h
          exact ⟨j, rfl, hj', hX0.2, hX0.1, fun h => by have h9 : (0 : Int) = 3 := h; omega, fun h => by have h9 : (0 : Int) = 4 := h; omega⟩
        · rw [ow, e3]
          show (if (0 : Int) = 4 ∧ false = false then some (j : Int).toNat else none) = none
          rw [if_neg (by intro h; omega)]
    · have e3 : k.step N hz C z = { k with sn := k.sn.step C } := by
        rw [e1]
        unfold Ge.read
        rw [if_pos hd]
      refine .inl ⟨by rw [e3]; exact hph, ⟨n1, by rw [e3]; exact hph, hwho, fun _ => ?_, fun a h => by rw [e3] at h; have h9 : k.ta = some a := h; rw [hta] at h9; cases h9⟩, .inl ⟨?_, fun _ _ => rfl⟩⟩
      · rw [e3]
        exact ⟨st, r', P', g1, g2, g3, g4⟩
      · rw [e3]
        rfl
  | some a =>
    have e1 : k.step N hz C z = k.grab N (a.go a.slot.toNat (N + a.slot.toNat) C) := by unfold Ge.step; rw [if_neg hnp, hta]
    have e2 : k.cells N hz C = a.cells a.slot.toNat hz C := by unfold Ge.cells; rw [if_neg hnp, hta]
    obtain ⟨j, j1, j2, j3, j4, j5, j6⟩ := h.ta a hta
    obtain ⟨a1, ap⟩ := h.ok.ta hph a hta
    have asl : a.slot.toNat = j := by rw [j1]; exact Int.toNat_natCast j
    rw [asl] at e1 e2
    have ow : k.own = if a.next = 4 ∧ a.lost = false then some j else none := by unfold Ge.own; rw [hta, ← asl]
    have hlt : hz < C.length := by have := h.ok.lay.t1; omega
    -- a step that turns no word and leaves the take under way
    have keepC : ∀ x : Int, ∀ i, i < N → (C.set hz x).getD i 0 = C.getD i 0 := fun x i hi => getD_set_ne' _ (by omega)
    have okC : ∀ x : Int, CellsOk (C.set hz x) C0 N := fun x => ⟨by rw [List.length_set]; exact hC.len, fun i hi => by rw [getD_set_ne' _ (by omega)]; exact hC.val i hi, fun i hi => by
      rcases hC.word i hi with h9 | h9
      · exact .inl ((keepC x i hi).trans h9)
      · exact .inr ⟨(keepC x i hi).trans h9.1, h9.2⟩⟩
    have on : ∀ a' : Ta, a.go j (N + j) C = a' → a'.ph = 0 → k.step N hz C z = { k with ta := some a' } := fun a' g hp' => by
      rw [e1, g]
      unfold Ge.grab
      rw [if_neg (by omega), if_neg (by omega)]
    -- what comes of one that goes on, with the words as they are
    have res : ∀ (a' : Ta) (C1 : List Int), a.go j (N + j) C = a' → a'.ph = 0 → k.cells N hz C = C1 → CellsOk C1 C0 N → (∀ i, i < N → C1.getD i 0 = C.getD i 0) → a'.slot = (j : Int) → a'.word = a.word → (a'.next = 3 → a'.value = C0.getD (N + j) 0) → (a'.next = 4 → a'.lost = true) → k.own = none →
        CellsOk (k.cells N hz C) C0 N ∧ Mono C (k.cells N hz C) C0 N ∧
        (((k.step N hz C z).ph = 0 ∧ GetOk (k.step N hz C z) (k.cells N hz C) C0 N hz th ∧
            (((k.step N hz C z).own = k.own ∧ ∀ i, i < N → (k.cells N hz C).getD i 0 = C.getD i 0) ∨
              (k.own = none ∧ ∃ j, j < N ∧ (k.step N hz C z).own = some j ∧ ¬ Gone C C0 j ∧ Gone (k.cells N hz C) C0 j ∧ ∀ i, i < N → i ≠ j → (k.cells N hz C).getD i 0 = C.getD i 0))) ∨
          ((k.step N hz C z).ph = 1 ∧ (∃ j, k.own = some j ∧ (k.step N hz C z).val = C0.getD (N + j) 0) ∧ (k.step N hz C z).ta ≠ none ∧ ∀ i, i < N → (k.cells N hz C).getD i 0 = C.getD i 0) ∨
          ((k.step N hz C z).ph = 2 ∧ k.own = none ∧ (∀ i, i < N → (k.cells N hz C).getD i 0 = C.getD i 0) ∧ ∀ j, j < N → Lv C0 j → Gone C C0 j)) := by
      intro a' C1 g hp' hC1 hok hsame hsl hwd h3 h4 hown
      have e3 := on a' g hp'
      rw [hC1] at n1 ⊢
      refine ⟨hok, fun i hi _ => hsame i hi, .inl ⟨by rw [e3]; exact hph, ⟨n1, by rw [e3]; exact hph, hwho, (fun h => by rw [e3] at h; cases h), fun a'' h => ?_⟩, .inl ⟨?_, hsame⟩⟩⟩
      · rw [e3] at h
        cases h
        exact ⟨j, hsl, j2, j3, hwd.trans j4, h3, fun h5 h6 => by rw [h4 h5] at h6; cases h6⟩
      · rw [hown, e3]
        show (if a'.next = 4 ∧ a'.lost = false then some a'.slot.toNat else none) = none
        rw [if_neg]
        rintro ⟨h5, h6⟩
        rw [h4 h5] at h6
        cases h6
    have hjz : hz ≠ j := by omega
    rcases a1.st ap with ⟨hn, hl⟩ | ⟨hn, hl⟩ | ⟨hn, hl⟩ | ⟨hn, hl⟩ | hn
    · obtain ⟨g1, g2, g3⟩ := go_0 (j := j) (jv := N + j) (hz := hz) (C := C) ap hn
      exact res _ _ g1 ap (e2.trans g2) (okC _) (keepC _) j1 rfl (fun h => by have h9 : (1 : Int) = 3 := h; omega) (fun h => by have h9 : (1 : Int) = 4 := h; omega) (by rw [ow, if_neg (by omega)])
    · by_cases hw : C.getD j 0 = a.word
      · obtain ⟨g1, g2, g3⟩ := go_1y (jv := N + j) (hz := hz) ap hn hw
        exact res _ _ g1 ap (e2.trans g2) hC (fun _ _ => rfl) j1 rfl (fun h => by have h9 : (2 : Int) = 3 := h; omega) (fun h => by have h9 : (2 : Int) = 4 := h; omega) (by rw [ow, if_neg (by omega)])
      · obtain ⟨g1, g2, g3⟩ := go_1n (jv := N + j) (hz := hz) ap hn hw
        exact res _ _ g1 ap (e2.trans g2) hC (fun _ _ => rfl) j1 rfl (fun h => by have h9 : (4 : Int) = 3 := h; omega) (fun _ => rfl) (by rw [ow, if_neg (by omega)])
    · obtain ⟨g1, g2, g3⟩ := go_2 (j := j) (jv := N + j) (hz := hz) (C := C) ap hn
      exact res _ _ g1 ap (e2.trans g2) hC (fun _ _ => rfl) j1 rfl (fun _ => hC.val j j2) (fun h => by have h9 : (3 : Int) = 4 := h; omega) (by rw [ow, if_neg (by omega)])
    · by_cases hw : C.getD j 0 = a.word
      · obtain ⟨g1, g2, g3⟩ := go_3y (jv := N + j) (hz := hz) ap hn hw
        have e3 := on _ g1 ap
        have hc : k.cells N hz C = C.set j (tkW (C0.getD j 0)) := e2.trans (by rw [g2, j4])
        have hCj : C.getD j 0 = C0.getD j 0 := hw.trans j4
        have hng : ¬ Gone C C0 j := fun h => h.ne hCj
        have hg : Gone (C.set j (tkW (C0.getD j 0))) C0 j := ⟨getD_set_eq' _ (by omega), j3⟩
        have hot : ∀ i, i ≠ j → (C.set j (tkW (C0.getD j 0))).getD i 0 = C.getD i 0 := fun i hi => getD_set_ne' _ (fun e => hi e.symm)
        rw [hc] at n1 ⊢
        refine ⟨⟨by rw [List.length_set]; exact hC.len, fun i hi => by rw [hot _ (by omega)]; exact hC.val i hi, fun i hi => ?_⟩, fun i hi hgi => hot i (fun e => hng (e ▸ hgi)), .inl ⟨by rw [e3]; exact hph, ⟨n1, by rw [e3]; exact hph, hwho, (fun h => by rw [e3] at h; cases h), fun a'' h => ?_⟩, .inr ⟨by rw [ow, if_neg (by omega)], j, j2, ?_, hng, hg, fun i _ hi => hot i hi⟩⟩⟩
        · by_cases e : i = j
          · subst e
            exact .inr hg
          · rcases hC.word i hi with h9 | h9
            · exact .inl ((hot i e).trans h9)
            · exact .inr ⟨(hot i e).trans h9.1, h9.2⟩
        · rw [e3] at h
          cases h
          exact ⟨j, j1, j2, j3, j4, (fun h => by have h9 : (4 : Int) = 3 := h; omega), fun _ _ => ⟨j5 hn, hg⟩⟩
        · rw [e3]
          show (if (4 : Int) = 4 ∧ a.lost = false then some a.slot.toNat else none) = some j
          rw [if_pos ⟨rfl, hl⟩, asl]
      · obtain ⟨g1, g2, g3⟩ := go_3n (jv := N + j) (hz := hz) ap hn hw
        exact res _ _ g1 ap (e2.trans g2) hC (fun _ _ => rfl) j1 rfl (fun h => by have h9 : (4 : Int) = 3 := h; omega) (fun _ => rfl) (by rw [ow, if_neg (by omega)])
    · by_cases hl : a.lost = true
      · obtain ⟨g1, g2, g3⟩ := go_4n (j := j) (jv := N + j) (hz := hz) (C := C) ap hn hl
        have hc : k.cells N hz C = C.set hz 0 := e2.trans g2
        have e3 : k.step N hz C z = { k with tries := k.tries + 1, sn := sn0 k.t k.s k.so k.d k.who (IntKind.u64.wrap k.start % N) N, ta := none } := by
          rw [e1, g1]
          unfold Ge.grab
          rw [if_neg (by show ¬ (2 : Int) = 1; decide), if_pos rfl]
        have hown : k.own = none := by rw [ow, if_neg (by rw [hl]; intro h; cases h.2)]
        have hn2 := h.ok.lay.n2
        obtain ⟨m1, m2, m5, m3, m4⟩ := start_mod k.start N (by omega) (by omega)
        obtain ⟨st, hst⟩ : ∃ st : Nat, IntKind.u64.wrap k.start % N = (st : Int) := ⟨_, (Int.toNat_of_nonneg m3).symm⟩
        rw [hc] at n1 ⊢
        refine ⟨okC _, fun i hi _ => keepC _ i hi, .inl ⟨by rw [e3]; exact hph, ⟨n1, by rw [e3]; exact hph, hwho, fun _ => ?_, fun a'' h => by rw [e3] at h; cases h⟩, .inl ⟨by rw [hown, e3]; rfl, keepC _⟩⟩⟩
        rw [e3]
        show ∃ st r P, SnAt (sn0 k.t k.s k.so k.d k.who (IntKind.u64.wrap k.start % N) N) N st r P ∧ _
        rw [hst]
        exact ⟨st, 0, 0, sn0_at _ _ _ _ _ N st (by omega), fun j hj => .inl (gzeros _ _), fun h => by omega, fun q hq => by omega⟩
      · have hl' : a.lost = false := by simpa using hl
        obtain ⟨g1, g2, g3⟩ := go_4y (j := j) (jv := N + j) (hz := hz) (C := C) ap hn hl'
        have hc : k.cells N hz C = C.set hz 0 := e2.trans g2
        have e3 : k.step N hz C z = { k with ta := some { a with next := 5, ph := 1 }, ph := 1 } := by
          rw [e1, g1]
          unfold Ge.grab
          rw [if_pos rfl]
        rw [hc]
        refine ⟨okC _, fun i hi _ => keepC _ i hi, .inr (.inl ⟨by rw [e3], ⟨j, by rw [ow, if_pos ⟨hn, hl'⟩], ?_⟩, by rw [e3]; exact (fun h => by cases h), keepC _⟩)⟩
        rw [e3]
        show (if (1 : Int) = 1 then (if (1 : Int) = 1 then a.value else 0) else 0) = _
        rw [if_pos rfl, if_pos rfl]
        exact (j6 hn hl').1

/-- It ends within so many steps, if nobody else does anything. -/
def Ends (N hz : Nat) : Nat → Ge → List Int → Prop
  | 0, k, _ => k.ph ≠ 0
  | m + 1, k, C => k.ph ≠ 0 ∨ ∀ z, k.ask C z → (∀ j, 0 ≤ C.getD j 0 ∧ C.getD j 0 ≤ 18446744073709551615) → Ends N hz m (k.step N hz C z) (k.cells N hz C)
theorem Ends.over {m : Nat} {k : Ge} {C : List Int} (h : k.ph ≠ 0) : Ends N hz m k C := by
  cases m with
  | zero => exact h
  | succ m => exact .inl h
theorem Ends.more : ∀ {m m' : Nat} {k : Ge} {C : List Int}, Ends N hz m k C → m ≤ m' → Ends N hz m' k C
  | 0, m', k, C, h, _ => Ends.over h
  | m + 1, 0, _, _, _, h => by omega
  | m + 1, m' + 1, k, C, h, hm => by
    rcases h with h | h
    · exact .inl h
    · exact .inr fun z ha hf => (h z ha hf).more (by omega)
theorem ends_alone {T : Int} (hT : T < 1000000) : ∀ (q : Nat) {i : Nat} {k : Ge} {C C0 : List Int}, GA k C C0 N hz i T → 2 * N + 5 ≤ i + q → Ends N hz q k C
  | 0, i, k, C, C0, h, hq => by
    rcases h.cases with ⟨h1, h2⟩ | ⟨_, h2, _⟩ | ⟨_, _, h2, _⟩
    · omega
    · exact Ends.over (by omega)
    · exact Ends.over (by omega)
  | q + 1, i, k, C, C0, h, hq => by
    by_cases hp : k.ph = 0
    · exact .inr fun z ha hf => ends_alone hT q (h.step hp ha hf hT) (by omega)
    · exact .inl hp
theorem ends_fresh {k : Ge} {C : List Int} (hk : k.Ok N hz C) (hp : k.ph = 0) (ht : k.ta = none) (hs : k.sn = sn0 k.t k.s k.so k.d k.who (IntKind.u64.wrap k.start % N) N) (hT : k.tries < 1000000) : Ends N hz (2 * N + 5) k C := by
  have hn1 := hk.lay.n1
  have ht1 := hk.lay.t1
  have hn2 := hk.lay.n2
  obtain ⟨m1, m2, m5, m3, m4⟩ := start_mod k.start N (by omega) (by omega)
  obtain ⟨st, hst⟩ : ∃ st : Nat, IntKind.u64.wrap k.start % N = (st : Int) := ⟨_, (Int.toNat_of_nonneg m3).symm⟩
  refine ends_alone (T := k.tries) hT (2 * N + 5) (i := 0) (C0 := C) ⟨hk, rfl, rfl, .inl ⟨hp, ht, rfl, by omega, st, ?_⟩⟩ (by omega)
  rw [hs, hst]
  exact Snap.start k.t k.s k.so k.d k.who C N st 0 (by omega)
theorem ends_take : ∀ (q : Nat) {a : Ta} {k : Ge} {C : List Int}, k.Ok N hz C → k.ph = 0 → k.ta = some a → 5 ≤ a.next + q → k.tries < 999999 → Ends N hz (q + (2 * N + 5)) k C
  | 0, a, k, C, hk, hp, ht, hq, _ => by
    obtain ⟨a1, ap⟩ := hk.ta hp a ht
    have := a1.st ap
    omega
  | q + 1, a, k, C, hk, hp, ht, hq, hT => by
    rw [show q + 1 + (2 * N + 5) = (q + (2 * N + 5)) + 1 by omega]
    refine .inr fun z ha hf => ?_
    obtain ⟨n1, n2, n3, n4⟩ := hk.next ha (fun h => by rw [ht] at h; cases h) (by omega) hf
    obtain ⟨a1, ap⟩ := hk.ta hp a ht
    have e1 : k.step N hz C z = k.grab N (a.go a.slot.toNat (N + a.slot.toNat) C) := by unfold Ge.step; rw [if_neg (by omega), ht]
    have hph := go_phs (j := a.slot.toNat) (jv := N + a.slot.toNat) (C := C) ap
    have hnx : (a.go a.slot.toNat (N + a.slot.toNat) C).ph = 0 → a.next + 1 ≤ (a.go a.slot.toNat (N + a.slot.toNat) C).next := by
      intro h0
      have hst := a1.st ap
      unfold Ta.go at h0 ⊢
      rw [if_neg (by omega)] at h0 ⊢
      by_cases c0 : a.next = 0
      · rw [if_pos c0]
        show a.next + 1 ≤ 1
        omega
      rw [if_neg c0] at h0 ⊢
      by_cases c1 : a.next = 1
      · rw [if_pos c1]
        split
        · show a.next + 1 ≤ 2
          omega
        · show a.next + 1 ≤ 4
          omega
      rw [if_neg c1] at h0 ⊢
      by_cases c2 : a.next = 2
      · rw [if_pos c2]
        show a.next + 1 ≤ 3
        omega
      rw [if_neg c2] at h0 ⊢
      by_cases c3 : a.next = 3
      · rw [if_pos c3]
        split
        · show a.next + 1 ≤ 4
          omega
        · show a.next + 1 ≤ 4
          omega
      rw [if_neg c3] at h0 ⊢
      split at h0
      · have h9 : (2 : Int) = 0 := h0
        omega
      · have h9 : (1 : Int) = 0 := h0
        omega
    generalize a.go a.slot.toNat (N + a.slot.toNat) C = a' at e1 hph hnx
    rcases hph with h | h | h
    · have e3 : k.step N hz C z = { k with ta := some a' } := by
        rw [e1]
        unfold Ge.grab
        rw [if_neg (by omega), if_neg (by omega)]
      rw [e3] at n1 ⊢
      exact ends_take (a := a') q n1 hp rfl (by have := hnx h; omega) hT
    · have e3 : k.step N hz C z = { k with ta := some a', ph := 1 } := by
        rw [e1]
        unfold Ge.grab
        rw [if_pos h]
      rw [e3]
      exact Ends.over (by show (1 : Int) ≠ 0; decide)
    · have e3 : k.step N hz C z = { k with tries := k.tries + 1, sn := sn0 k.t k.s k.so k.d k.who (IntKind.u64.wrap k.start % N) N, ta := none } := by
        rw [e1]
        unfold Ge.grab
        rw [if_neg (by omega), if_pos h]
      rw [e3] at n1 ⊢
      exact (ends_fresh n1 hp rfl rfl (by show k.tries + 1 < 1000000; omega)).more (by omega)
theorem ends_read {st B : Nat} {last : Int} : ∀ (q : Nat) {i : Nat} {k : Ge} {C : List Int}, k.Ok N hz C → k.ph = 0 → k.ta = none → Snap k.sn C N st i B last → (B + 2) * N ≤ i + q → k.tries < 999999 → k.sn.passes + q < 999999 → Ends N hz (q + (2 * N + 10)) k C
  | 0, i, k, C, hk, hp, ht, hs, hq, _, _ => by
    exfalso
    obtain ⟨s1, s2⟩ := hk.sn hp ht
    have hn1 := hk.lay.n1
    have ht1 := hk.lay.t1
    rcases hs with ⟨P, r, h1, h2⟩ | ⟨P, h1, h2⟩
    · have h3 := h2.c3
      have h4 := h2.at'.r1
      have h5 := Nat.mul_le_mul_right N (show P + 1 ≤ B + 2 by omega)
      rw [Nat.add_mul] at h5
      omega
    · have := h2.ph
      omega
  | q + 1, i, k, C, hk, hp, ht, hs, hq, hT, hP => by
    rw [show q + 1 + (2 * N + 10) = (q + (2 * N + 10)) + 1 by omega]
    refine .inr fun z ha hf => ?_
    obtain ⟨s1, s2⟩ := hk.sn hp ht
    have hp0 := s1.p0
    obtain ⟨n1, n2, n3, n4⟩ := hk.next ha (fun _ => by omega) (by omega) hf
    have e1 : k.step N hz C z = k.read (k.sn.step C) z := by unfold Ge.step; rw [if_neg (by omega), ht]
    have e2 : k.cells N hz C = C := by unfold Ge.cells; rw [if_neg (by omega), ht]
    rw [e2] at n1 ⊢
    by_cases hd : (k.sn.step C).ph = 1
    · by_cases hz0 : z < 0
      · have e3 : k.step N hz C z = { k with sn := k.sn.step C, ph := 2 } := by
          rw [e1]
          unfold Ge.read
          rw [if_neg (fun h => h hd), if_pos hz0]
        rw [e3]
        exact Ends.over (by show (2 : Int) ≠ 0; decide)
      · have e3 : k.step N hz C z = { k with sn := k.sn.step C, ta := some (ta0 k.t k.s k.so k.d k.who z ((k.sn.step C).X.getD z.toNat 0)) } := by
          rw [e1]
          unfold Ge.read
          rw [if_neg (fun h => h hd), if_neg hz0]
        rw [e3] at n1 ⊢
        exact (ends_take 5 n1 hp rfl (by show (5 : Int) ≤ 0 + ((5 : Nat) : Int); decide) hT).more (by omega)
    · have e3 : k.step N hz C z = { k with sn := k.sn.step C } := by
        rw [e1]
        unfold Ge.read
        rw [if_pos hd]
      rw [e3] at n1 n2 ⊢
      have n2' : (k.sn.step C).passes ≤ max 0 (k.sn.passes + 1) := n2
      exact ends_read q n1 hp ht (hs.step s2) (by omega) hT (by show (k.sn.step C).passes + q < 999999; omega)
/-- Whatever get: it ends. -/
theorem GetOk.ends {k : Ge} {C C0 : List Int} {th : Int} (h : GetOk k C C0 N hz th) (hN : N ≤ 16) (hT : k.tries < 999999) (hP : k.sn.passes < 900000) : Ends N hz 100 k C := by
  cases hta : k.ta with
  | some a =>
    have h0 : 0 ≤ a.next := by
      have := (h.ok.ta h.ph a hta).1.st (h.ok.ta h.ph a hta).2
      omega
    exact (ends_take 5 h.ok h.ph hta (by omega) hT).more (by omega)
  | none =>
    obtain ⟨st, r, P, h1, _⟩ := h.sn hta
    have hs : Snap k.sn C N st (P * N + r) (P + 1) P := .inl ⟨P, r, rfl, h1, (h.ok.sn h.ph hta).2, fun h => absurd rfl h, fun _ h => by omega, fun _ => by omega, fun h => absurd rfl h, by omega, Int.le_refl _⟩
    refine (ends_read (3 * N) h.ok h.ph hta hs ?_ hT (by omega)).more (by omega)
    rw [show P + 1 + 2 = P + 3 by omega, Nat.add_mul]
    omega
end

/-- How many are under way. -/
def cntS : List (Option Ge) → Nat
  | [] => 0
  | none :: l => cntS l
  | some _ :: l => cntS l + 1
theorem cntS_some : ∀ {l : List (Option Ge)} {i : Nat} {k : Ge}, l[i]? = some none → cntS (l.set i (some k)) = cntS l + 1
  | [], i, k, h => by simp at h
  | x :: l, 0, k, h => by
    have : x = none := by simpa using h
    subst this
    rfl
  | none :: l, i + 1, k, h => cntS_some (l := l) (by simpa using h)
  | some y :: l, i + 1, k, h => congrArg (· + 1) (cntS_some (l := l) (by simpa using h))
theorem cntS_none : ∀ {l : List (Option Ge)} {i : Nat} {k : Ge}, l[i]? = some (some k) → cntS (l.set i none) + 1 = cntS l
  | [], i, k, h => by simp at h
  | x :: l, 0, k, h => by
    have : x = some k := by simpa using h
    subst this
    rfl
  | none :: l, i + 1, k, h => cntS_none (l := l) (by simpa using h)
  | some y :: l, i + 1, k, h => congrArg (· + 1) (cntS_none (l := l) (by simpa using h))
theorem cntS_same : ∀ {l : List (Option Ge)} {i : Nat} {k k' : Ge}, l[i]? = some (some k) → cntS (l.set i (some k')) = cntS l
  | [], i, k, k', h => by simp at h
  | x :: l, 0, k, k', h => by
    have : x = some k := by simpa using h
    subst this
    rfl
  | none :: l, i + 1, k, k', h => cntS_same (l := l) (by simpa using h)
  | some y :: l, i + 1, k, k', h => congrArg (· + 1) (cntS_same (l := l) (by simpa using h))
theorem cntS_zero : ∀ {l : List (Option Ge)}, (∀ (i : Nat) (x : Option Ge), l[i]? = some x → x = none) → cntS l = 0
  | [], _ => rfl
  | x :: l, h => by
    have : x = none := h 0 x rfl
    subst this
    exact cntS_zero (l := l) (fun i x hx => h (i + 1) x (by simpa using hx))
theorem cntS_nones : ∀ T : Nat, cntS (List.replicate T none) = 0
  | 0 => rfl
  | T + 1 => cntS_nones T

theorem nodup_le : ∀ {l m : List Nat}, l.Nodup → (∀ x, x ∈ l → x ∈ m) → l.length ≤ m.length
  | [], m, _, _ => Nat.zero_le _
  | x :: l, m, hn, h => by
    have h1 := List.nodup_cons.1 hn
    have hx := h x List.mem_cons_self
    have h2 := nodup_le (m := m.erase x) h1.2 (fun y hy => (List.mem_erase_of_ne (fun e => by subst e; exact h1.1 hy)).2 (h y (List.mem_cons_of_mem _ hy)))
    rw [List.length_erase_of_mem hx] at h2
    have h3 := List.length_pos_of_mem hx
    rw [List.length_cons]
    omega

theorem GetOk.own_gone {k : Ge} {C C0 : List Int} {N hz j : Nat} {th : Int} (h : GetOk k C C0 N hz th) (ho : k.own = some j) : j < N ∧ Gone C C0 j := by
  unfold Ge.own at ho
  cases hta : k.ta with
  | none =>
    rw [hta] at ho
    cases ho
  | some a =>
    rw [hta] at ho
    obtain ⟨j', h1, h2, h3, h4, h5, h6⟩ := h.ta a hta
    have ho' : (if a.next = 4 ∧ a.lost = false then some a.slot.toNat else none) = some j := ho
    split at ho'
    · rename_i hc
      cases ho'
      rw [h1, Int.toNat_natCast]
      exact ⟨h2, (h6 hc.1 hc.2).2⟩
    · cases ho'

structure GRace (wk : List (Option Ge)) (C C0 : List Int) (N T : Nat) (had : List Nat) (full asked n : Nat) : Prop where
  cells : CellsOk C C0 N
  len : wk.length = T
  gets : ∀ (th : Nat) k, wk[th]? = some (some k) → GetOk k C C0 N (2 * N + th) th ∧ k.tries ≤ n ∧ k.sn.passes ≤ n
  nodup : had.Nodup
  hadG : ∀ j, j ∈ had → j < N ∧ Gone C C0 j
  own1 : ∀ (th : Nat) k j, wk[th]? = some (some k) → k.own = some j → j ∉ had
  own2 : ∀ (th th' : Nat) k k' j, wk[th]? = some (some k) → wk[th']? = some (some k') → k.own = some j → k'.own = some j → th = th'
  gone : ∀ j, j < N → Gone C C0 j → j ∈ had ∨ ∃ (th : Nat) (k : Ge), wk[th]? = some (some k) ∧ k.own = some j
  fullG : 0 < full → ∀ j, j < N → Lv C0 j → Gone C C0 j
  cnt : asked = had.length + full + cntS wk

theorem set_at {α : Type} {l : List α} {i q : Nat} {y z : α} (h : (l.set i y)[q]? = some z) : (q = i ∧ z = y ∧ i < l.length) ∨ (q ≠ i ∧ l[q]? = some z) := by
  by_cases e : q = i
  · subst e
    have hlt : q < l.length := by
      have := (List.getElem?_eq_some_iff.1 h).1
      rwa [List.length_set] at this
    rw [List.getElem?_set_self hlt] at h
    exact .inl ⟨rfl, (Option.some.inj h).symm, hlt⟩
  · rw [List.getElem?_set_ne (fun h => e h.symm)] at h
    exact .inr ⟨e, h⟩

section
variable {wk : List (Option Ge)} {C C0 : List Int} {N T : Nat} {had : List Nat} {full asked n th : Nat} {k : Ge} {z : Int}
theorem GRace.begin (h : GRace wk C C0 N T had full asked n) (ht : wk[th]? = some none) (hk : GetOk k C C0 N (2 * N + th) th) (ho : k.own = none) (h1 : k.tries ≤ n) (h2 : k.sn.passes ≤ n) : GRace (wk.set th (some k)) C C0 N T had full (asked + 1) n := by
  refine ⟨h.cells, by rw [List.length_set]; exact h.len, fun q k2 hq => ?_, h.nodup, h.hadG, fun q k2 j hq hj => ?_, fun q q' k2 k3 j hq hq' hj hj' => ?_, fun j hj hg => ?_, h.fullG, by rw [cntS_some ht]; have := h.cnt; omega⟩
  · rcases set_at hq with ⟨rfl, hz, _⟩ | ⟨_, hz⟩
    · cases hz
      exact ⟨hk, h1, h2⟩
    · exact h.gets q k2 hz
  · rcases set_at hq with ⟨rfl, hz, _⟩ | ⟨_, hz⟩
    · cases hz
      rw [ho] at hj
      cases hj
    · exact h.own1 q k2 j hz hj
  · rcases set_at hq with ⟨rfl, hz, _⟩ | ⟨_, hz⟩
    · cases hz
      rw [ho] at hj
      cases hj
    · rcases set_at hq' with ⟨rfl, hz', _⟩ | ⟨_, hz'⟩
      · cases hz'
        rw [ho] at hj'
        cases hj'
      · exact h.own2 q q' k2 k3 j hz hz' hj hj'
  · rcases h.gone j hj hg with h3 | ⟨q, k2, h3, h4⟩
    · exact .inl h3
    · refine .inr ⟨q, k2, ?_, h4⟩
      rw [List.getElem?_set_ne (fun e => by subst e; rw [ht] at h3; cases h3)]
      exact h3

/-- A step of one that is under way. -/
theorem GRace.go (h : GRace wk C C0 N T had full asked n) (ht : wk[th]? = some (some k)) (ha : k.ask C z) (hf : ∀ j, 0 ≤ C.getD j 0 ∧ C.getD j 0 ≤ 18446744073709551615) (hn : n < 900000) :
    ((k.step N (2 * N + th) C z).ph = 0 ∧ GRace (wk.set th (some (k.step N (2 * N + th) C z))) (k.cells N (2 * N + th) C) C0 N T had full asked (n + 1)) ∨
    ((k.step N (2 * N + th) C z).ph = 1 ∧ (∃ j, (k.step N (2 * N + th) C z).val = C0.getD (N + j) 0 ∧ GRace (wk.set th none) (k.cells N (2 * N + th) C) C0 N T (had ++ [j]) full asked (n + 1)) ∧ (k.step N (2 * N + th) C z).ta ≠ none) ∨
    ((k.step N (2 * N + th) C z).ph = 2 ∧ GRace (wk.set th none) (k.cells N (2 * N + th) C) C0 N T had (full + 1) asked (n + 1)) := by
  obtain ⟨g, g1, g2⟩ := h.gets th k ht
  obtain ⟨c1, c2, c3⟩ := g.step h.cells ha hf (by omega) (by omega)
  obtain ⟨n1, n2, n3, n4⟩ := g.ok.next ha (fun _ => by omega) (by omega) hf
  have hl := k.cells_len N (2 * N + th) C
  have hlt : th < wk.length := (List.getElem?_eq_some_iff.1 ht).1
  have others : ∀ (q : Nat) k2, wk[q]? = some (some k2) → GetOk k2 (k.cells N (2 * N + th) C) C0 N (2 * N + q) q ∧ k2.tries ≤ ((n + 1 : Nat) : Int) ∧ k2.sn.passes ≤ ((n + 1 : Nat) : Int) := fun q k2 hq => by
    obtain ⟨a, b, c⟩ := h.gets q k2 hq
    exact ⟨a.mono c2 hl, by omega, by omega⟩
  generalize hk' : k.step N (2 * N + th) C z = k' at *
  generalize k.cells N (2 * N + th) C = C' at *
  have back : ∀ j, j < N → C'.getD j 0 = C.getD j 0 → Gone C' C0 j → Gone C C0 j := fun j hj e hg => ⟨e ▸ hg.1, hg.2⟩
  rcases c3 with ⟨p0, gk, hw⟩ | ⟨p1, ⟨j, ho, hv⟩, hta, hw⟩ | ⟨p2, ho, hw, hall⟩
  · refine .inl ⟨p0, ⟨c1, by rw [List.length_set]; exact h.len, fun q k2 hq => ?_, h.nodup, fun j hj => ⟨(h.hadG j hj).1, c2.gone (h.hadG j hj).1 (h.hadG j hj).2⟩, fun q k2 j hq hj => ?_, fun q q' k2 k3 j hq hq' hj hj' => ?_, fun j hj hg => ?_, fun hf j hj hlv => c2.gone hj (h.fullG hf j hj hlv), by rw [cntS_same ht]; exact h.cnt⟩⟩
    · rcases set_at hq with ⟨rfl, hz, _⟩ | ⟨_, hz⟩
      · cases hz
        exact ⟨gk, by omega, by omega⟩
      · exact others q k2 hz
    · rcases set_at hq with ⟨rfl, hz, _⟩ | ⟨_, hz⟩
      · cases hz
        rcases hw with ⟨ho, _⟩ | ⟨ho, j0, b1, b2, b3, b4, b5⟩
        · exact h.own1 q k j ht (ho ▸ hj)
        · rw [b2] at hj
          cases hj
          exact fun hm => b3 (h.hadG _ hm).2
      · exact h.own1 q k2 j hz hj
    · have clash : ∀ (q2 : Nat) k4, wk[q2]? = some (some k4) → q2 ≠ th → k4.own = some j → k'.own = some j → False := fun q2 k4 b6 b7 b8 b9 => by
        rcases hw with ⟨ho, _⟩ | ⟨ho, j0, b1, b2, b3, b4, b5⟩
        · exact b7 (h.own2 q2 th k4 k j b6 ht b8 (ho ▸ b9))
        · rw [b2] at b9
          cases b9
          exact b3 ((h.gets q2 k4 b6).1.own_gone b8).2
      rcases set_at hq with ⟨rfl, hz, _⟩ | ⟨hne, hz⟩
      · cases hz
        rcases set_at hq' with ⟨rfl, hz', _⟩ | ⟨hne', hz'⟩
        · rfl
        · exact (clash q' k3 hz' hne' hj' hj).elim
      · rcases set_at hq' with ⟨rfl, hz', _⟩ | ⟨hne', hz'⟩
        · cases hz'
          exact (clash q k2 hz hne hj hj').elim
        · exact h.own2 q q' k2 k3 j hz hz' hj hj'
    · have old : Gone C C0 j → j ∈ had ∨ ∃ (q : Nat) (k2 : Ge), (wk.set th (some k'))[q]? = some (some k2) ∧ k2.own = some j := fun hg0 => by
        rcases h.gone j hj hg0 with h3 | ⟨q, k2, h3, h4⟩
        · exact .inl h3
        · by_cases e : q = th
          · subst e
            rw [ht] at h3
            cases h3
            rcases hw with ⟨ho, _⟩ | ⟨ho, _⟩
            · exact .inr ⟨q, k', List.getElem?_set_self hlt, ho.trans h4⟩
            · rw [ho] at h4
              cases h4
          · exact .inr ⟨q, k2, by rw [List.getElem?_set_ne (fun h => e h.symm)]; exact h3, h4⟩
      rcases id hw with ⟨ho, hs⟩ | ⟨ho, j0, b1, b2, b3, b4, b5⟩
      · exact old (back j hj (hs j hj) hg)
      · by_cases e : j = j0
        · subst e
          exact .inr ⟨th, k', List.getElem?_set_self hlt, b2⟩
        · exact old (back j hj (b5 j hj e) hg)
  · refine .inr (.inl ⟨p1, ⟨j, hv, ⟨c1, by rw [List.length_set]; exact h.len, fun q k2 hq => ?_, ?_, fun i hi => ?_, fun q k2 i hq hi => ?_, fun q q' k2 k3 i hq hq' hi hi' => ?_, fun i hi hg => ?_, fun hf i hi hlv => c2.gone hi (h.fullG hf i hi hlv), ?_⟩⟩, hta⟩)
    · rcases set_at hq with ⟨rfl, hz, _⟩ | ⟨_, hz⟩
      · cases hz
      · exact others q k2 hz
    · rw [List.nodup_append]
      refine ⟨h.nodup, by simp, fun a ha b hb => ?_⟩
      rw [List.mem_singleton] at hb
      subst hb
      exact fun e => h.own1 th k b ht ho (e ▸ ha)
    · rcases List.mem_append.1 hi with hi | hi
      · exact ⟨(h.hadG i hi).1, c2.gone (h.hadG i hi).1 (h.hadG i hi).2⟩
      · rw [List.mem_singleton] at hi
        subst hi
        obtain ⟨d1, d2⟩ := g.own_gone ho
        exact ⟨d1, c2.gone d1 d2⟩
    · rcases set_at hq with ⟨rfl, hz, _⟩ | ⟨hne, hz⟩
      · cases hz
      · intro hm
        rcases List.mem_append.1 hm with hm | hm
        · exact h.own1 q k2 i hz hi hm
        · rw [List.mem_singleton] at hm
          subst hm
          exact hne (h.own2 q th k2 k i hz ht hi ho)
    · rcases set_at hq with ⟨rfl, hz, _⟩ | ⟨_, hz⟩
      · cases hz
      · rcases set_at hq' with ⟨rfl, hz', _⟩ | ⟨_, hz'⟩
        · cases hz'
        · exact h.own2 q q' k2 k3 i hz hz' hi hi'
    · rcases h.gone i hi (back i hi (hw i hi) hg) with h3 | ⟨q, k2, h3, h4⟩
      · exact .inl (List.mem_append_left _ h3)
      · by_cases e : q = th
        · subst e
          rw [ht] at h3
          cases h3
          rw [ho] at h4
          cases h4
          exact .inl (List.mem_append_right _ (List.mem_singleton.2 rfl))
        · exact .inr ⟨q, k2, by rw [List.getElem?_set_ne (fun h => e h.symm)]; exact h3, h4⟩
    · have := cntS_none ht
      have := h.cnt
      rw [List.length_append, List.length_singleton]
      omega
  · refine .inr (.inr ⟨p2, ⟨c1, by rw [List.length_set]; exact h.len, fun q k2 hq => ?_, h.nodup, fun i hi => ⟨(h.hadG i hi).1, c2.gone (h.hadG i hi).1 (h.hadG i hi).2⟩, fun q k2 i hq hi => ?_, fun q q' k2 k3 i hq hq' hi hi' => ?_, fun i hi hg => ?_, fun _ i hi hlv => c2.gone hi (hall i hi hlv), ?_⟩⟩)
    · rcases set_at hq with ⟨rfl, hz, _⟩ | ⟨_, hz⟩
      · cases hz
      · exact others q k2 hz
    · rcases set_at hq with ⟨rfl, hz, _⟩ | ⟨_, hz⟩
      · cases hz
      · exact h.own1 q k2 i hz hi
    · rcases set_at hq with ⟨rfl, hz, _⟩ | ⟨_, hz⟩
      · cases hz
      · rcases set_at hq' with ⟨rfl, hz', _⟩ | ⟨_, hz'⟩
        · cases hz'
        · exact h.own2 q q' k2 k3 i hz hz' hi hi'
    · rcases h.gone i hi (back i hi (hw i hi) hg) with h3 | ⟨q, k2, h3, h4⟩
      · exact .inl h3
      · by_cases e : q = th
        · subst e
          rw [ht] at h3
          cases h3
          rw [ho] at h4
          cases h4
        · exact .inr ⟨q, k2, by rw [List.getElem?_set_ne (fun h => e h.symm)]; exact h3, h4⟩
    · have := cntS_none ht
      have := h.cnt
      omega

theorem GRace.start {t : Int} (hT : (T : Int) = t) : GRace (List.replicate T none) C0 C0 N T [] 0 0 0 := by
  have hno : ∀ (i : Nat) k, (List.replicate T (none : Option Ge))[i]? = some (some k) → False := fun i k h => by
    rw [List.getElem?_replicate] at h
    split at h <;> cases h
  exact ⟨⟨rfl, fun _ _ => rfl, fun _ _ => .inl rfl⟩, List.length_replicate, fun q k h => (hno q k h).elim, List.nodup_nil, (fun j h => by cases h), fun q k j h _ => (hno q k h).elim, fun q _ k _ j h _ _ _ => (hno q k h).elim, fun j hj hg => absurd rfl hg.ne, fun h => by omega, by rw [cntS_nones]; rfl⟩

/-- When nobody is under way any more. -/
theorem GRace.fin {S0 : List Nat} (h : GRace wk C C0 N T had full asked n) (hno : ∀ (i : Nat) (x : Option Ge), wk[i]? = some x → x = none) (hS : IsOrder (C0.take N) S0) (hN : N ≤ C0.length) :
    asked = had.length + full ∧ had.length ≤ S0.length ∧ (0 < full → had.length = S0.length) ∧ (∀ j, j ∈ had → j ∈ S0 ∧ j < N ∧ Lv C0 j) := by
  have hm : ∀ j, j < N → (j ∈ S0 ↔ Lv C0 j) := fun j hj => by
    rw [hS.mem j, List.length_take, Nat.min_eq_left hN]
    unfold live
    rw [getD_take hj]
    exact ⟨fun h => h.2, fun h => ⟨hj, h⟩⟩
  have hsub : ∀ j, j ∈ had → j ∈ S0 := fun j hj => (hm j (h.hadG j hj).1).2 (h.hadG j hj).2.2
  have h1 := nodup_le h.nodup hsub
  refine ⟨by have := h.cnt; rw [cntS_zero hno] at this; exact this, h1, fun hf => ?_, fun j hj => ⟨hsub j hj, (h.hadG j hj).1, (h.hadG j hj).2.2⟩⟩
  have hnd : S0.Nodup := List.Pairwise.imp (fun {a b} hab e => by subst e; omega) hS.rise
  have h2 := nodup_le hnd (m := had) (fun j hj => by
    have h3 := (hS.mem j).1 hj
    have hj' : j < N := by have := h3.1; rw [List.length_take] at this; omega
    rcases h.gone j hj' (h.fullG hf j hj' ((hm j hj').1 hj)) with h4 | ⟨q, k2, h4, _⟩
    · exact h4
    · have := hno q _ h4
      cases this)
  omega
end

/-- A get, and where it lies. -/
structure WG where
  b : Nat
  bs : Nat
  gs : Nat
  bt : Option Nat
  k : Ge
def tNo : Thing := ⟨fun _ => True, fun _ => False⟩
theorem tNo_ok (base : Nat) : tNo.Ok base := ⟨fun _ _ _ _ _ _ => trivial, fun _ _ _ h => h.elim⟩
def wTh (base : Nat) : Option WG → Thing
  | none => tNo
  | some x => tGe base x.b x.bs x.gs x.bt x.k
def wPt : Option WG → Value
  | none => .pointer none
  | some x => pt x.b
theorem wTh_ok (base : Nat) : ∀ x, (wTh base x).Ok base
  | none => tNo_ok base
  | some x => tGe_ok _ _ _ _ _ _
def wKs (Ws : List (Option WG)) : List (Option Ge) := Ws.map (Option.map WG.k)

theorem Hold.setB {W w : World} {l : List Thing} {b : Nat} {xs : List Value} (h : Hold W w l) (i : Nat) (hi : l[i]? = some (tObj W.heap.size b xs)) (j : Nat) (u : Value) : Hold W (w.setCell ⟨b, j, none⟩ u) (l.set i (tObj W.heap.size b (xs.set j u))) :=
  h.turn i hi ((Keep.refl _ _).own j u |>.mono (fun q hq => hq)) (tObj_ok _ _ _) ⟨(h.has i _ hi).1.set j u, (h.has i _ hi).2⟩ (fun q hq => .inl hq)
/-- What was made last takes the place of another thing. -/
theorem Hold.put {W w : World} {l : List Thing} {A : Thing} (h : Hold W w (l ++ [A])) (i : Nat) (hi : i < l.length) : Hold W w (l.set i A) :=
  h.sel (fun j => if j = i then l.length else j) (fun j B hB => by
    rcases set_at hB with ⟨rfl, rfl, _⟩ | ⟨hne, hB⟩
    · rw [if_pos rfl]
      simp
    · rw [if_neg hne, List.getElem?_append_left (List.getElem?_eq_some_iff.1 hB).1]
      exact hB) (fun a b ha hb e => by
    rw [List.length_set] at ha hb
    split at e <;> split at e <;> omega)

/-- Cells, the boxes (of the memory, of what was had, of how many found nothing, of the row of gets, of how many asked), the row, the gets. -/
def RH (W w : World) (p c : Nat) (C : List Int) (L : List Ev) (mb gb fb wb ab rb : Nat) (Z : Thing) (gv : Value) (gl : List Int) (fu aq : Nat) (Ws : List (Option WG)) : Prop :=
  ∃ v, Hold W w (tMem W.heap.size p c v C L :: tObj W.heap.size mb [pt p] :: tObj W.heap.size gb [gv] :: tRow W.heap.size 39 1 gv gl.length (gl.map (Value.int .u64)) :: tObj W.heap.size fb [i64 fu] :: tObj W.heap.size wb [.slice (some ⟨rb, 0, none⟩) Ws.length Ws.length] :: tObj W.heap.size ab [i64 aq] :: tObj W.heap.size rb (Ws.map wPt) :: Z :: Ws.map (wTh W.heap.size))

section
variable {W w w' : World} {p c mb gb fb wb ab rb fu aq th : Nat} {Z : Thing} {C : List Int} {L : List Ev} {gv : Value} {gl : List Int} {Ws : List (Option WG)}
theorem RH.later (h : RH W w p c C L mb gb fb wb ab rb Z gv gl fu aq Ws) (e : Below w.heap.size w w') : RH W w' p c C L mb gb fb wb ab rb Z gv gl fu aq Ws := by
  obtain ⟨v, h⟩ := h
  exact ⟨v, Hold.later h e⟩
theorem RH.drew (h : RH W w p c C L mb gb fb wb ab rb Z gv gl fu aq Ws) : RH W w.drew p c C L mb gb fb wb ab rb Z gv gl fu aq Ws := h.later (Below.refl _ _).drew
theorem RH.below (h : RH W w p c C L mb gb fb wb ab rb Z gv gl fu aq Ws) : Below W.heap.size W w := by
  obtain ⟨v, h⟩ := h
  exact h.below
theorem RH.size (h : RH W w p c C L mb gb fb wb ab rb Z gv gl fu aq Ws) : W.heap.size ≤ w.heap.size := by
  obtain ⟨v, h⟩ := h
  exact h.size
theorem RH.mem (h : RH W w p c C L mb gb fb wb ab rb Z gv gl fu aq Ws) : ∃ v, IsMem W.heap.size w p c v C L := by
  obtain ⟨v, h⟩ := h
  exact ⟨v, h.has 0 _ rfl⟩
theorem RH.fit (h : RH W w p c C L mb gb fb wb ab rb Z gv gl fu aq Ws) : ∀ j, 0 ≤ C.getD j 0 ∧ C.getD j 0 ≤ 18446744073709551615 := by
  obtain ⟨v, h⟩ := h.mem
  exact h.fit
theorem RH.mbox (h : RH W w p c C L mb gb fb wb ab rb Z gv gl fu aq Ws) : IsObj w mb [pt p] := by
  obtain ⟨v, h⟩ := h
  exact (h.has 1 _ rfl).1
theorem RH.gbox (h : RH W w p c C L mb gb fb wb ab rb Z gv gl fu aq Ws) : IsObj w gb [gv] := by
  obtain ⟨v, h⟩ := h
  exact (h.has 2 _ rfl).1
theorem RH.grow (h : RH W w p c C L mb gb fb wb ab rb Z gv gl fu aq Ws) : w.ownsRow W.heap.size 39 1 gv gl.length (gl.map (Value.int .u64)) := by
  obtain ⟨v, h⟩ := h
  exact h.has 3 _ rfl
theorem RH.fbox (h : RH W w p c C L mb gb fb wb ab rb Z gv gl fu aq Ws) : IsObj w fb [i64 fu] := by
  obtain ⟨v, h⟩ := h
  exact (h.has 4 _ rfl).1
theorem RH.wbox (h : RH W w p c C L mb gb fb wb ab rb Z gv gl fu aq Ws) : IsObj w wb [.slice (some ⟨rb, 0, none⟩) Ws.length Ws.length] := by
  obtain ⟨v, h⟩ := h
  exact (h.has 5 _ rfl).1
theorem RH.abox (h : RH W w p c C L mb gb fb wb ab rb Z gv gl fu aq Ws) : IsObj w ab [i64 aq] := by
  obtain ⟨v, h⟩ := h
  exact (h.has 6 _ rfl).1
theorem RH.rbox (h : RH W w p c C L mb gb fb wb ab rb Z gv gl fu aq Ws) : IsObj w rb (Ws.map wPt) := by
  obtain ⟨v, h⟩ := h
  exact (h.has 7 _ rfl).1
theorem RH.ptr (h : RH W w p c C L mb gb fb wb ab rb Z gv gl fu aq Ws) {x : Option WG} (hx : Ws[th]? = some x) : w.cell? ⟨rb, th, none⟩ = some (wPt x) :=
  h.rbox.at' th _ (by rw [List.getElem?_map, hx]; rfl)
theorem wth_at {base : Nat} {x : Option WG} (hx : Ws[th]? = some x) (a b d e f g h i j : Thing) : (a :: b :: d :: e :: f :: g :: h :: i :: j :: Ws.map (wTh base))[9 + th]? = some (wTh base x) := by
  rw [show 9 + th = th + 1 + 1 + 1 + 1 + 1 + 1 + 1 + 1 + 1 by omega]
  simp only [List.getElem?_cons_succ]
  rw [List.getElem?_map, hx]
  rfl
theorem wth_set {base : Nat} {x : Option WG} (a b d e f g h i j : Thing) : (a :: b :: d :: e :: f :: g :: h :: i :: j :: Ws.map (wTh base)).set (9 + th) (wTh base x) = a :: b :: d :: e :: f :: g :: h :: i :: j :: (Ws.set th x).map (wTh base) := by
  rw [show 9 + th = th + 1 + 1 + 1 + 1 + 1 + 1 + 1 + 1 + 1 by omega]
  simp only [List.set_cons_succ, List.map_set]
theorem RH.getAt (h : RH W w p c C L mb gb fb wb ab rb Z gv gl fu aq Ws) {x : WG} (hx : Ws[th]? = some (some x)) : IsGe W.heap.size w x.b x.bs x.gs x.bt x.k := by
  obtain ⟨v, h⟩ := h
  exact h.has (9 + th) _ (wth_at hx _ _ _ _ _ _ _ _ _)
/-- A step of one. -/
theorem RH.call {N hz : Nat} {x : WG} (h : RH W w p c C L mb gb fb wb ab rb Z gv gl fu aq Ws) (hx : Ws[th]? = some (some x)) (hk : x.k.Ok N hz C) (hL : L.length < 1000000000) :
    Calls Try.prog 25 #[pt x.b, pt p] w fun r w' => ∃ z, x.k.ask C z ∧ r = .returned (i64 (x.k.step N hz C z).ph) ∧ ∃ bs' gs' bt', RH W w' p c (x.k.cells N hz C) (L ++ x.k.ev N hz C) mb gb fb wb ab rb Z gv gl fu aq (Ws.set th (some ⟨x.b, bs', gs', bt', x.k.step N hz C z⟩)) := by
  obtain ⟨v, h⟩ := h
  have hi := wth_at (base := W.heap.size) hx (tMem W.heap.size p c v C L) (tObj W.heap.size mb [pt p]) (tObj W.heap.size gb [gv]) (tRow W.heap.size 39 1 gv gl.length (gl.map (Value.int .u64))) (tObj W.heap.size fb [i64 fu]) (tObj W.heap.size wb [.slice (some ⟨rb, 0, none⟩) Ws.length Ws.length]) (tObj W.heap.size ab [i64 aq]) (tObj W.heap.size rb (Ws.map wPt)) Z
  refine (gestep_any W.heap.size w x.b x.bs x.gs p c x.bt v C L x.k N hz hk (h.has (9 + th) _ hi) (h.has 0 _ rfl) (Hold.free h 0 (9 + th) (by omega) rfl hi) h.size hL).mono ?_
  rintro r w' ⟨z, h1, h2, v', bs', gs', bt', hD, hG, hF, hA⟩
  refine ⟨z, h1, h2, bs', gs', bt', v', ?_⟩
  have h3 := Hold.turn3 h 0 (9 + th) (by omega) rfl hi hD.keep (tMem_ok _ _ _ _ _ _) (tGe_ok W.heap.size x.b bs' gs' bt' (x.k.step N hz C z)) hD.mem hG (fun q hq => by
    rcases hq with h1 | h1 | h1
    · exact .inl (.inl h1)
    · exact .inl (.inr (.inl h1))
    · exact (hD.moved q h1).imp (fun h => .inr (.inr h)) id) hF (fun q hq hg => hA q hg hq)
  have h4 := wth_set (Ws := Ws) (th := th) (base := W.heap.size) (x := some ⟨x.b, bs', gs', bt', x.k.step N hz C z⟩) (tMem W.heap.size p c v' (x.k.cells N hz C) (L ++ x.k.ev N hz C)) (tObj W.heap.size mb [pt p]) (tObj W.heap.size gb [gv]) (tRow W.heap.size 39 1 gv gl.length (gl.map (Value.int .u64))) (tObj W.heap.size fb [i64 fu]) (tObj W.heap.size wb [.slice (some ⟨rb, 0, none⟩) Ws.length Ws.length]) (tObj W.heap.size ab [i64 aq]) (tObj W.heap.size rb (Ws.map wPt)) Z
  rw [List.set_cons_zero] at h3
  have h5 : Hold W w' ((tMem W.heap.size p c v' (x.k.cells N hz C) (L ++ x.k.ev N hz C) :: tObj W.heap.size mb [pt p] :: tObj W.heap.size gb [gv] :: tRow W.heap.size 39 1 gv gl.length (gl.map (Value.int .u64)) :: tObj W.heap.size fb [i64 fu] :: tObj W.heap.size wb [.slice (some ⟨rb, 0, none⟩) Ws.length Ws.length] :: tObj W.heap.size ab [i64 aq] :: tObj W.heap.size rb (Ws.map wPt) :: Z :: Ws.map (wTh W.heap.size)).set (9 + th) (wTh W.heap.size (some ⟨x.b, bs', gs', bt', x.k.step N hz C z⟩))) := h3
  rw [h4] at h5
  have hm : (Ws.set th (some ⟨x.b, bs', gs', bt', x.k.step N hz C z⟩)).map wPt = Ws.map wPt := by
    rw [List.map_set]
    refine List.ext_getElem? (fun i => ?_)
    by_cases e : th = i
    · subst e
      rw [List.getElem?_set_self (by rw [List.length_map]; exact (List.getElem?_eq_some_iff.1 hx).1), List.getElem?_map, hx]
      rfl
    · rw [List.getElem?_set_ne e]
  rw [List.length_set, hm]
  exact h5
/-- A new one. -/
theorem RH.newGet {x : WG} (h : RH W w p c C L mb gb fb wb ab rb Z gv gl fu aq Ws) (hx : Ws[th]? = some none) (e : Below w.heap.size w w') (hk : IsGe W.heap.size w' x.b x.bs x.gs x.bt x.k) (hb : ∀ i, GeB x.b x.bs x.gs x.bt i → w.heap.size ≤ i) :
    RH W (w'.setCell ⟨rb, th, none⟩ (pt x.b)) p c C L mb gb fb wb ab rb Z gv gl fu aq (Ws.set th (some x)) := by
  obtain ⟨v, h⟩ := h
  have hlt := (List.getElem?_eq_some_iff.1 hx).1
  have h1 := Hold.more h e (tGe_ok W.heap.size x.b x.bs x.gs x.bt x.k) hk hb
  have h2 := Hold.put h1 (9 + th) (by simp only [List.length_cons, List.length_map]; omega)
  have h3 : Hold W w' ((tMem W.heap.size p c v C L :: tObj W.heap.size mb [pt p] :: tObj W.heap.size gb [gv] :: tRow W.heap.size 39 1 gv gl.length (gl.map (Value.int .u64)) :: tObj W.heap.size fb [i64 fu] :: tObj W.heap.size wb [.slice (some ⟨rb, 0, none⟩) Ws.length Ws.length] :: tObj W.heap.size ab [i64 aq] :: tObj W.heap.size rb (Ws.map wPt) :: Z :: Ws.map (wTh W.heap.size)).set (9 + th) (wTh W.heap.size (some x))) := h2
  rw [wth_set] at h3
  have h4 := Hold.setB h3 7 rfl th (pt x.b)
  refine ⟨v, ?_⟩
  rw [List.length_set, List.map_set (f := wPt)]
  exact h4
/-- One is done. -/
theorem RH.gone (h : RH W w p c C L mb gb fb wb ab rb Z gv gl fu aq Ws) (hlt : th < Ws.length) :
    RH W (w.setCell ⟨rb, th, none⟩ (.pointer none)) p c C L mb gb fb wb ab rb Z gv gl fu aq (Ws.set th none) := by
  obtain ⟨v, h⟩ := h
  have h1 := Hold.more h (Below.refl _ _) (tNo_ok W.heap.size) trivial (fun q hq => hq.elim)
  have h2 := Hold.put h1 (9 + th) (by simp only [List.length_cons, List.length_map]; omega)
  have h3 : Hold W w ((tMem W.heap.size p c v C L :: tObj W.heap.size mb [pt p] :: tObj W.heap.size gb [gv] :: tRow W.heap.size 39 1 gv gl.length (gl.map (Value.int .u64)) :: tObj W.heap.size fb [i64 fu] :: tObj W.heap.size wb [.slice (some ⟨rb, 0, none⟩) Ws.length Ws.length] :: tObj W.heap.size ab [i64 aq] :: tObj W.heap.size rb (Ws.map wPt) :: Z :: Ws.map (wTh W.heap.size)).set (9 + th) (wTh W.heap.size none)) := h2
  rw [wth_set] at h3
  have h4 := Hold.setB h3 7 rfl th (.pointer none)
  refine ⟨v, ?_⟩
  rw [List.length_set, List.map_set (f := wPt)]
  exact h4
theorem RH.setFull (h : RH W w p c C L mb gb fb wb ab rb Z gv gl fu aq Ws) (fu' : Nat) : RH W (w.setCell ⟨fb, 0, none⟩ (i64 fu')) p c C L mb gb fb wb ab rb Z gv gl fu' aq Ws := by
  obtain ⟨v, h⟩ := h
  exact ⟨v, Hold.setB h 4 rfl 0 (i64 fu')⟩
theorem RH.setAsk (h : RH W w p c C L mb gb fb wb ab rb Z gv gl fu aq Ws) (aq' : Nat) : RH W (w.setCell ⟨ab, 0, none⟩ (i64 aq')) p c C L mb gb fb wb ab rb Z gv gl fu aq' Ws := by
  obtain ⟨v, h⟩ := h
  exact ⟨v, Hold.setB h 6 rfl 0 (i64 aq')⟩
/-- The boxes, while the row of what was had is turned. -/
theorem RH.app {gv' : Value} {m : Nat} {xs : List Value} (h : RH W w p c C L mb gb fb wb ab rb Z gv gl fu aq Ws) (g : Grew w w' W.heap.size 39 1 gv gv' m xs) : IsObj w' gb [gv] ∧ IsObj w' wb [.slice (some ⟨rb, 0, none⟩) Ws.length Ws.length] ∧ IsObj w' rb (Ws.map wPt) := by
  obtain ⟨v, h⟩ := h
  have h1 := Hold.append h 3 rfl rfl g
  exact ⟨(h1.has 2 _ rfl).1, (h1.has 5 _ rfl).1, (h1.has 7 _ rfl).1⟩
/-- What was had is one more. -/
theorem RH.got {gv' : Value} {y : Int} (h : RH W w p c C L mb gb fb wb ab rb Z gv gl fu aq Ws) (g : Grew w w' W.heap.size 39 1 gv gv' (gl.length + 1) ((gl ++ [y]).map (Value.int .u64))) : RH W (w'.setCell ⟨gb, 0, none⟩ gv') p c C L mb gb fb wb ab rb Z gv' (gl ++ [y]) fu aq Ws := by
  obtain ⟨v, h⟩ := h
  have h1 := Hold.append h 3 rfl rfl g
  have h2 := Hold.setB h1 2 rfl 0 gv'
  refine ⟨v, ?_⟩
  rw [List.length_append, List.length_singleton]
  exact h2
theorem RH.extra (h : RH W w p c C L mb gb fb wb ab rb Z gv gl fu aq Ws) : Z.P w := by
  obtain ⟨v, h⟩ := h
  exact h.has 8 _ rfl
theorem RH.value (h : RH W w p c C L mb gb fb wb ab rb Z gv gl fu aq Ws) {x : WG} (hx : Ws[th]? = some (some x)) (y : Int) (hy : x.k.val = y) (h1 : x.k.ph = 1 → x.k.ta ≠ none) : Calls Try.prog 28 #[pt x.b] w fun r w' => r = .returned (u64 y) ∧ Below w.heap.size w w' :=
  hy ▸ quiet_below (gevalue_any W.heap.size w x.b x.bs x.gs x.bt x.k (h.getAt hx) h1)
end

theorem wKs_set (Ws : List (Option WG)) (th : Nat) (x : Option WG) : wKs (Ws.set th x) = (wKs Ws).set th (x.map WG.k) := by
  unfold wKs
  rw [List.map_set]
theorem wKs_at {Ws : List (Option WG)} {th : Nat} {x : Option WG} (h : Ws[th]? = some x) : (wKs Ws)[th]? = some (x.map WG.k) := by
  unfold wKs
  rw [List.getElem?_map, h]
  rfl

theorem fresh_small {t s so d who e start : Int} {N : Nat} : (ge0 t s so d who e start N).own = none ∧ (ge0 t s so d who e start N).tries = 0 ∧ (ge0 t s so d who e start N).sn.passes = 0 := ⟨rfl, rfl, rfl⟩

/-- What the closure leaves. -/
def StepPost (W : World) (p c mb gb fb wb ab rb : Nat) (Z : Thing) (C C0 : List Int) (L : List Ev) (N T n th : Nat) (Ws : List (Option WG)) (w : World) (r : Ending) (w' : World) : Prop :=
  r = .returned (.tuple #[]) ∧ ∃ (C' : List Int) (L' : List Ev) (gv' : Value) (gl' : List Int) (fu' aq' : Nat) (Ws' : List (Option WG)) (had' : List Nat),
    RH W w' p c C' L' mb gb fb wb ab rb Z gv' gl' fu' aq' Ws' ∧ GRace (wKs Ws') C' C0 N T had' fu' aq' (n + 1) ∧ gl' = had'.map (fun j => C0.getD (N + j) 0) ∧ L'.length ≤ L.length + 1 ∧ (∀ i, i ≠ th → Ws'[i]? = Ws[i]?) ∧
    (∀ x m, Ws[th]? = some (some x) → Ends N (2 * N + th) (m + 1) x.k C → Ws'[th]? = some none ∨ ∃ x', Ws'[th]? = some (some x') ∧ Ends N (2 * N + th) m x'.k C') ∧ aq' ≤ n + 1 ∧ fu' ≤ n + 1 ∧ gl'.length ≤ n + 1

set_option maxRecDepth 100000 in
set_option maxHeartbeats 8000000 in
theorem rstep_any (W w : World) (p c mb gb fb wb ab rb eb cb th N T n : Nat) (Z : Thing) (t s : Int) (C C0 : List Int) (L : List Ev) (gv : Value) (gl : List Int) (fu aq : Nat) (Ws : List (Option WG)) (had : List Nat) (a4 : Option Addr) (len4 cap4 tb off : Nat) (X : Nat → Bool)
    (hlay : Lay t s N) (hN : N ≤ 16) (hT : (T : Int) = t) (hth : th < T) (hA : AtC W cb t s 0 0) (hs : cb < W.heap.size) (he : W.cell? ⟨eb, 0, none⟩ = some (.slice a4 len4 cap4)) (hE : IsBools W a4 len4 cap4 tb off X) (hC : (C.length : Int) = 2 * N + 2 * t)
    (hH : RH W w p c C L mb gb fb wb ab rb Z gv gl fu aq Ws) (hG : GRace (wKs Ws) C C0 N T had fu aq n) (hgl : gl = had.map (fun j => C0.getD (N + j) 0)) (hV : ∀ j, 0 ≤ C0.getD j 0 ∧ C0.getD j 0 ≤ 18446744073709551615) (hn : n < 5000) (hL : L.length ≤ 100 + n) (hgn : gl.length ≤ n) (hfn : fu ≤ n) (haq : aq ≤ n) :
    Calls Try.prog 34 #[i64 th, pt wb, pt ab, pt eb, pt cb, pt mb, pt gb, pt fb] w (StepPost W p c mb gb fb wb ab rb Z C C0 L N T n th Ws w) := by
  have HH := Lib.hid hH
  have HG := Lib.hid hG
  have HGL := Lib.hid hgl
  have HV := Lib.hid hV
  have HA := Lib.hid hA
  have Hs := Lib.hid hs
  have HE := Lib.hid hE
  have HEB : Hid (eb < W.heap.size) := World.block_lt_of_cell? _ _ he
  have HEC := Lib.hid he
  have HCL := Lib.hid hC
  have HL := Lib.hid hL
  have hWl : Ws.length = T := by have := hG.len; unfold wKs at this; rwa [List.length_map] at this
  have HWL := Lib.hid hWl
  have HTT := Lib.hid hT
  have hth' : (th : Int) < (T : Int) := by omega
  have he1 : w.cell? ⟨eb, 0, none⟩ = some (.slice a4 len4 cap4) := (hH.below.cell (p := ⟨eb, 0, none⟩) HEB.out).trans he
  clear hH hG hgl hV hA hs hE he hC hL hT
  obtain ⟨x0, hx0⟩ : ∃ x0, Ws[th]? = some x0 := ⟨_, List.getElem?_eq_getElem (by omega)⟩
  have HX := Lib.hid hx0
  have hwb := HH.out.wbox.at' 0 _ rfl
  have hpr := HH.out.ptr hx0
  rw [hWl] at hwb
  clear hx0 hWl
  cases x0 with
  | none =>
    have hpr0 : w.cell? ⟨rb, th, none⟩ = some (.pointer none) := hpr
    have hab := HH.out.abox.at' 0 _ rfl
    have HG1 : Hid (∀ ee : Int, ee = 0 ∨ ee = 1 → GetOk (ge0 t s 0 0 (th : Int) ee (aq : Int) N) C C0 N (2 * N + th) th) := fun ee he => GetOk.start hlay HCL.out (by omega) (by omega) (by have := HTT.out; omega) he
    clear hpr
    rcases Nat.lt_or_ge aq len4 with hal | hal
    · have hal' : (aq : Int) < (len4 : Int) := by omega
      obtain ⟨rfl, hcap4, heb, hel⟩ := (HE.out.later HH.out.below (fun i hi => (HE.out i hi).2.2.1)) aq hal
      obtain ⟨rr, hrr⟩ : ∃ rr, X aq = rr := ⟨_, rfl⟩
      rw [hrr] at hel
      clear hrr
      as_aux_lemma =>
        obtain ⟨ee, hee, hee2⟩ : ∃ e : Int, (if rr then (1 : Int) else 0) = e ∧ (e = 0 ∨ e = 1) := ⟨_, rfl, by cases rr <;> simp⟩
        have Hee := Lib.hid hee
        clear hee
        go_enter Try.func34, Try.ntmps34
        go_wp2_with fail
        refine wp_region_seqS ((fun w' => AtC w' cb t s 0 0 ∧ w'.cell? ⟨wb, 0, none⟩ = some (.slice (some ⟨rb, 0, none⟩) T T) ∧ w'.cell? ⟨ab, 0, none⟩ = some (i64 aq))) ((0, true) :: (1, true) :: (2, true) :: (3, true) :: (4, true) :: (6, true) :: (5, false) :: (7, false) :: (8, true) :: (9, false) :: []) (by kernel_rfl) (by kernel_rfl) (by kernel_rfl) (by decide) (fun _ _ _ _ _ h => h) (⟨HA.out.later HH.out.drew.below Hs.out, hwb, hab⟩) ?_
        replace HH := Lib.hid HH.out.drew
        clear hwb hab hpr0 he1 hel
        repeat (first | (refine seq_take (v := ?_) rfl ?_ ?_ ?_; rotate_left 1; rfl; (focus (intro wS hSw; obtain ⟨⟨k0, k1, k2, k3⟩, d0, d1⟩ := hSw; go_simp; first | done | with_reducible rfl)); (try simp only [Act.put, List.setIfInBounds_toArray, List.set_cons_zero, List.set_cons_succ])) | (refine seq_skip rfl ?_ ?_; rfl; (try simp only [Act.put, List.setIfInBounds_toArray, List.set_cons_zero, List.set_cons_succ])))
        refine seq_run rfl (fun K hK => ?_)
        go_simp
        go_at_call 11
        refine (end_at rr ee _ Hee.out).mono ?_
        rintro r w2 ⟨rfl, hb⟩
        (try go_wp2_with fail)
        replace HH := Lib.hid (HH.out.later hb)
        clear hb
        refine hK.out _ _ (⟨HA.out.later HH.out.below Hs.out, (by have := HH.out.wbox.at' 0 _ rfl; rwa [HWL.out] at this), HH.out.abox.at' 0 _ rfl⟩) (fun _ => ?_)
        (try simp only [Act.put, List.setIfInBounds_toArray, List.set_cons_zero, List.set_cons_succ])
        clear hK K
        repeat (first | (refine seq_take (v := ?_) rfl ?_ ?_ ?_; rotate_left 1; rfl; (focus (intro wS hSw; obtain ⟨⟨k0, k1, k2, k3⟩, d0, d1⟩ := hSw; go_simp; first | done | with_reducible rfl)); (try simp only [Act.put, List.setIfInBounds_toArray, List.set_cons_zero, List.set_cons_succ])) | (refine seq_skip rfl ?_ ?_; rfl; (try simp only [Act.put, List.setIfInBounds_toArray, List.set_cons_zero, List.set_cons_succ])))
        refine seq_run rfl (fun K hK => ?_)
        go_simp
        go_at_call 10
        refine (genew_any W.heap.size _ N t s 0 0 (th : Int) ee (aq : Int) hlay HH.out.size).mono ?_
        rintro r w3 ⟨b, bs, gs, rfl, hS3, hb3, hbb⟩
        (try go_wp2_with fail)
        have HH3 := Lib.hid (HH.out.newGet (x := ⟨b, bs, gs, none, ge0 t s 0 0 (th : Int) ee (aq : Int) N⟩) HX.out hb3 hS3 hbb)
        have hr3 := HH.out.later hb3
        have HR3 := Lib.hid hr3
        clear hS3 hb3 hbb HH hr3
        refine hK.out _ _ (⟨HA.out.later HR3.out.below Hs.out, (by have := HR3.out.wbox.at' 0 _ rfl; rwa [HWL.out] at this), HR3.out.abox.at' 0 _ rfl⟩) (fun _ => ?_)
        (try simp only [Act.put, List.setIfInBounds_toArray, List.set_cons_zero, List.set_cons_succ])
        clear hK K
        repeat (first | (refine seq_take (v := ?_) rfl ?_ ?_ ?_; rotate_left 1; rfl; (focus (intro wS hSw; obtain ⟨⟨k0, k1, k2, k3⟩, d0, d1⟩ := hSw; go_simp; first | done | with_reducible rfl)); (try simp only [Act.put, List.setIfInBounds_toArray, List.set_cons_zero, List.set_cons_succ])) | (refine seq_skip rfl ?_ ?_; rfl; (try simp only [Act.put, List.setIfInBounds_toArray, List.set_cons_zero, List.set_cons_succ])))
        refine seq_run rfl (fun K hK => ?_)
        go_simp
        have hpp := HR3.out.ptr HX.out
        have hpf := HR3.out.rbox.fz th
        go_simp
        clear hpp hpf HR3
        have HX3 : Hid ((Ws.set th (some ⟨b, bs, gs, none, ge0 t s 0 0 (th : Int) ee (aq : Int) N⟩))[th]? = some (some ⟨b, bs, gs, none, ge0 t s 0 0 (th : Int) ee (aq : Int) N⟩)) := List.getElem?_set_self (by have := HWL.out; omega)
        have HWL3 : Hid ((Ws.set th (some ⟨b, bs, gs, none, ge0 t s 0 0 (th : Int) ee (aq : Int) N⟩)).length = T) := by show _ = _; rw [List.length_set]; exact HWL.out
        have HG3 : Hid (GRace (wKs (Ws.set th (some ⟨b, bs, gs, none, ge0 t s 0 0 (th : Int) ee (aq : Int) N⟩))) C C0 N T had fu (aq + 1) n) := by
          show GRace _ _ _ _ _ _ _ _ _
          rw [wKs_set]
          exact HG.out.begin (wKs_at HX.out) (HG1.out ee hee2) rfl (by show (0 : Int) ≤ (n : Int); omega) (by show (0 : Int) ≤ (n : Int); omega)
        have HOT : Hid (∀ i, i ≠ th → (Ws.set th (some ⟨b, bs, gs, none, ge0 t s 0 0 (th : Int) ee (aq : Int) N⟩))[i]? = Ws[i]?) := fun i hi => List.getElem?_set_ne (fun e => hi e.symm)
        have HNE : Hid (∀ (x : WG) (m : Nat), Ws[th]? = some (some x) → False) := fun x m h => by rw [HX.out] at h; cases h
        clear HG HG1
        generalize hW1 : Ws.set th (some ⟨b, bs, gs, none, ge0 t s 0 0 (th : Int) ee (aq : Int) N⟩) = Ws1 at HH3 HX3 HWL3 HG3 HOT
        generalize hx1 : (⟨b, bs, gs, none, ge0 t s 0 0 (th : Int) ee (aq : Int) N⟩ : WG) = x1 at HX3
        have hbx : b = x1.b := by rw [← hx1]
        clear hW1 hx1
        generalize w3.setCell ⟨rb, th, none⟩ (pt b) = w4 at HH3 ⊢
        refine hK.out _ _ (⟨HA.out.later HH3.out.below Hs.out, (by have := HH3.out.wbox.at' 0 _ rfl; rwa [HWL3.out] at this), HH3.out.abox.at' 0 _ rfl⟩) (fun _ => ?_)
        (try simp only [Act.put, List.setIfInBounds_toArray, List.set_cons_zero, List.set_cons_succ])
        clear hK K
        refine seq_done ?_
        have hab := HH3.out.abox.at' 0 _ rfl
        have haf := HH3.out.abox.fz 0
        go_wp2_with fail
        clear hab haf
        have HH := Lib.hid (HH3.out.setAsk (aq + 1))
        rw [show (i64 ((aq + 1 : Nat) : Int)) = .int .i64 ((aq : Int) + 1) by rw [Int.natCast_add]; rfl] at HH
        clear HH3
        generalize w4.setCell ⟨ab, 0, none⟩ (.int .i64 ((aq : Int) + 1)) = wc at HH ⊢
        have HENDS : Hid (∀ (x : WG) (m : Nat), Ws[th]? = some (some x) → Ends N (2 * N + th) (m + 1) x.k C → Ends N (2 * N + th) (m + 1) x1.k C) := fun x m h => (HNE.out x m h).elim
        clear HNE hbx
        have haq1 : aq + 1 ≤ n + 1 := by omega
        generalize aq + 1 = aq1 at HH HG3 haq1

        have hpr := HH.out.ptr HX3.out
        have hwb := HH.out.wbox.at' 0 _ rfl
        have hmb := HH.out.mbox.at' 0 _ rfl
        rw [HWL3.out] at hwb
        replace hpr : wc.cell? ⟨rb, th, none⟩ = some (pt x1.b) := hpr
        refine wp_region_seqS ((fun w' => w'.cell? ⟨wb, 0, none⟩ = some (.slice (some ⟨rb, 0, none⟩) T T) ∧ w'.cell? ⟨rb, th, none⟩ = some (pt x1.b) ∧ w'.cell? ⟨mb, 0, none⟩ = some (pt p))) ((0, true) :: (1, true) :: (2, true) :: (3, true) :: (4, true) :: (5, false) :: []) (by kernel_rfl) (by kernel_rfl) (by kernel_rfl) (by decide) (fun _ _ _ _ _ h => h) (⟨hwb, hpr, hmb⟩) ?_
        replace HH := Lib.hid HH.out.drew
        clear hpr hwb hmb
        repeat (first | (refine seq_take (v := ?_) rfl ?_ ?_ ?_; rotate_left 1; rfl; (focus (intro wS hSw; obtain ⟨d0, d1, d2⟩ := hSw; go_simp; first | done | with_reducible rfl)); (try simp only [Act.put, List.setIfInBounds_toArray, List.set_cons_zero, List.set_cons_succ])) | (refine seq_skip rfl ?_ ?_; rfl; (try simp only [Act.put, List.setIfInBounds_toArray, List.set_cons_zero, List.set_cons_succ])))
        refine seq_run rfl (fun K hK => ?_)
        go_simp
        have hok := (HG3.out.gets th x1.k (wKs_at HX3.out)).1
        have hok1 := hok.ok
        have HOK := Lib.hid hok
        clear hok
        go_at_call 25
        refine (HH.out.call HX3.out hok1 (by have := HL.out; omega)).mono ?_
        rintro r w6 ⟨z, hz, rfl, bs', gs', bt', hH⟩
        (try go_wp2_with fail)
        have hgo := HG3.out.go (wKs_at HX3.out) hz HH.out.fit (by omega)
        have hen : ∀ m, Ends N (2 * N + th) (m + 1) x1.k C → Ends N (2 * N + th) m (x1.k.step N (2 * N + th) C z) (x1.k.cells N (2 * N + th) C) := fun m h => by
          rcases h with h | h
          · exact absurd HOK.out.ph h
          · exact h z hz HH.out.fit
        have HL6 : Hid ((L ++ x1.k.ev N (2 * N + th) C).length ≤ L.length + 1) := by have := Ge.ev_le x1.k N (2 * N + th) C; show _ ≤ _; rw [List.length_append]; omega
        have HEN := Lib.hid hen
        have HH6 := Lib.hid hH
        clear hH hz hok1 HH HOK hen HG3
        have hgo' : ((x1.k.step N (2 * N + th) C z).ph = 0 ∧ GRace (wKs (Ws1.set th (some ⟨x1.b, bs', gs', bt', x1.k.step N (2 * N + th) C z⟩))) (x1.k.cells N (2 * N + th) C) C0 N T had fu aq1 (n + 1)) ∨
            ((x1.k.step N (2 * N + th) C z).ph = 1 ∧ (∃ j, (x1.k.step N (2 * N + th) C z).val = C0.getD (N + j) 0 ∧ GRace (wKs (Ws1.set th none)) (x1.k.cells N (2 * N + th) C) C0 N T (had ++ [j]) fu aq1 (n + 1)) ∧ (x1.k.step N (2 * N + th) C z).ta ≠ none) ∨
            ((x1.k.step N (2 * N + th) C z).ph = 2 ∧ GRace (wKs (Ws1.set th none)) (x1.k.cells N (2 * N + th) C) C0 N T had (fu + 1) aq1 (n + 1)) := by
          rw [wKs_set, wKs_set]
          exact hgo
        clear hgo
        have HX6 : Hid ((Ws1.set th (some ⟨x1.b, bs', gs', bt', x1.k.step N (2 * N + th) C z⟩))[th]? = some (some ⟨x1.b, bs', gs', bt', x1.k.step N (2 * N + th) C z⟩)) := List.getElem?_set_self (by have := HWL3.out; omega)
        have HXN : Hid ((Ws1.set th none)[th]? = some none) := List.getElem?_set_self (by have := HWL3.out; omega)
        have HWL6 : Hid ((Ws1.set th (some ⟨x1.b, bs', gs', bt', x1.k.step N (2 * N + th) C z⟩)).length = T) := by show _ = _; rw [List.length_set]; exact HWL3.out
        have HO6 : Hid (∀ i, i ≠ th → (Ws1.set th (some ⟨x1.b, bs', gs', bt', x1.k.step N (2 * N + th) C z⟩))[i]? = Ws[i]?) := fun i hi => (List.getElem?_set_ne (fun e => hi e.symm)).trans (HOT.out i hi)
        have HON : Hid (∀ i, i ≠ th → (Ws1.set th none)[i]? = Ws[i]?) := fun i hi => (List.getElem?_set_ne (fun e => hi e.symm)).trans (HOT.out i hi)
        have HSS : Hid ((Ws1.set th (some ⟨x1.b, bs', gs', bt', x1.k.step N (2 * N + th) C z⟩)).set th none = Ws1.set th none) := List.set_set ..
        clear HOT
        generalize x1.k.step N (2 * N + th) C z = k' at *
        generalize x1.k.cells N (2 * N + th) C = C' at *
        generalize L ++ x1.k.ev N (2 * N + th) C = L' at *
        generalize hW2 : Ws1.set th (some ⟨x1.b, bs', gs', bt', k'⟩) = Ws2 at *
        generalize hx2 : (⟨x1.b, bs', gs', bt', k'⟩ : WG) = x2 at *
        have hx2b : x1.b = x2.b := by rw [← hx2]
        have hx2k : k' = x2.k := by rw [← hx2]
        clear hW2 hx2
        generalize Ws1.set th none = WsN at *
        have hwb := HH6.out.wbox.at' 0 _ rfl
        have hpr := HH6.out.ptr HX6.out
        have hmb := HH6.out.mbox.at' 0 _ rfl
        rw [HWL6.out] at hwb
        have hpr1 : w6.cell? ⟨rb, th, none⟩ = some (pt x1.b) := by rw [hx2b]; exact hpr
        refine hK.out _ _ (⟨hwb, hpr1, hmb⟩) (fun _ => ?_)
        (try simp only [Act.put, List.setIfInBounds_toArray, List.set_cons_zero, List.set_cons_succ])
        clear hK K
        refine seq_done ?_
        clear hmb hpr hpr1 hwb
        rcases hgo' with ⟨hph, hGR⟩ | ⟨hph, ⟨j, hval, hGR⟩, hta⟩ | ⟨hph, hGR⟩
        · rw [hph]
          have HGR := Lib.hid hGR
          clear hGR hph
          as_aux_lemma =>
            go_wp2
            refine bodyPost_ret (results_none rfl _ _ _) rfl ?_
            exact ⟨rfl, C', L', gv, gl, fu, aq1, Ws2, had, HH6.out, HGR.out, HGL.out, HL6.out, HO6.out, fun x m hx h => .inr ⟨x2, HX6.out, hx2k ▸ HEN.out m (HENDS.out x m hx h)⟩, by omega, by omega, by omega⟩
        · rw [hph]
          have HGR := Lib.hid hGR
          have HTA : Hid (x2.k.ta ≠ none) := hx2k ▸ hta
          have HVAL : Hid (x2.k.val = C0.getD (N + j) 0) := hx2k ▸ hval
          clear hGR hph hta hval
          as_aux_lemma =>
            have hwb := HH6.out.wbox.at' 0 _ rfl
            have hpr := HH6.out.ptr HX6.out
            have hgb := HH6.out.gbox.at' 0 _ rfl
            rw [HWL6.out] at hwb
            replace hpr : w6.cell? ⟨rb, th, none⟩ = some (pt x2.b) := hpr
            obtain ⟨ga, gc, rfl⟩ := own_shape HH6.out.grow
            obtain ⟨y, hy⟩ : ∃ y, C0.getD (N + j) 0 = y := ⟨_, rfl⟩
            have HVY : Hid (x2.k.val = y) := HVAL.out.trans hy
            have HY := Lib.hid hy
            clear hy
            clear hgb
            go_upto_region 6 with fail
            replace HH6 := Lib.hid HH6.out.drew
            refine wp_region_seqT (fun w' => w'.cell? ⟨wb, 0, none⟩ = some (.slice (some ⟨rb, 0, none⟩) T T) ∧ w'.cell? ⟨rb, th, none⟩ = some (pt x2.b)) (.take 1 (.take 2 (.take 3 (.take 4 (.two 0 (.one 5 (.one 6 (.one 7 (.one 8 .nil)))) 5 (.two 0 (.one 6 (.one 7 (.one 8 .nil))) 6 (.one 0 (.one 7 (.one 8 .nil))))))))) (by kernel_rfl) (by kernel_rfl) (by kernel_rfl) (by decide) (fun _ _ _ _ _ h => h) ⟨hwb, hpr⟩ ?_
            clear hwb hpr
            repeat (refine seqT_take (v := ?_) rfl ?_ ?_ ?_; rotate_left 1; rfl; (focus (intro wS hSw; obtain ⟨d0, d1⟩ := hSw; go_simp; first | done | with_reducible rfl)); (try simp only [Act.put, List.setIfInBounds_toArray, List.set_cons_zero, List.set_cons_succ]))
            generalize w6.drew = wd at HH6 ⊢
            refine ⟨?_, ?_⟩
            · skip
              have hgb := HH6.out.gbox.at' 0 _ rfl
              refine runT rfl (fun K hK => ?_)
              go_simp
              clear hgb
              refine hK.out _ _ (⟨(by have := HH6.out.wbox.at' 0 _ rfl; rwa [HWL6.out] at this), HH6.out.ptr HX6.out⟩) (fun _ => ?_)
              (try simp only [Act.put, List.setIfInBounds_toArray, List.set_cons_zero, List.set_cons_succ])
              clear hK K
              refine runT rfl (fun K hK => ?_)
              go_simp
              go_at_call 28
              refine (HH6.out.value HX6.out y HVY.out (fun _ => HTA.out)).mono ?_
              rintro r wd2 ⟨rfl, hb⟩
              (try go_wp2_with fail)
              replace HH6 := Lib.hid (HH6.out.later hb)
              clear hb
              refine hK.out _ _ (⟨(by have := HH6.out.wbox.at' 0 _ rfl; rwa [HWL6.out] at this), HH6.out.ptr HX6.out⟩) (fun _ => ?_)
              (try simp only [Act.put, List.setIfInBounds_toArray, List.set_cons_zero, List.set_cons_succ])
              clear hK K
              refine runT rfl (fun K hK => ?_)
              go_simp
              have hb := below_new (Below.refl wd2.heap.size wd2) (.cells #[.int .u64 y] 39)
              have hsr := src_list wd2 [.int .u64 y] 39 1 1 rfl (one_int _ _)
              replace HH6 := Lib.hid (HH6.out.later hb)
              have HSR := Lib.hid hsr
              clear hb hsr
              generalize wd2.alloc (.cells #[.int .u64 y] 39) = wd3 at HH6 HSR ⊢
              generalize wd2.heap.size = sb at HSR ⊢
              refine hK.out _ _ (⟨(by have := HH6.out.wbox.at' 0 _ rfl; rwa [HWL6.out] at this), HH6.out.ptr HX6.out⟩) (fun _ => ?_)
              (try simp only [Act.put, List.setIfInBounds_toArray, List.set_cons_zero, List.set_cons_succ])
              clear hK K
              refine runT rfl (fun K hK => ?_)
              refine step_append_grew rfl _ _ 56 rfl W.heap.size 39 _ 1 8 elem_u64 (.slice ga gl.length gc) gl.length (gl.map (Value.int .u64)) rfl HH6.out.grow (some ⟨sb, 0, none⟩) 1 1 [.int .u64 y] rfl HSR.out (by unfold maxLen; omega) (by omega) HH6.out.size ?_
              intro gv2 wd4 hG
              rw [show gl.map (Value.int .u64) ++ [.int .u64 y] = (gl ++ [y]).map (Value.int .u64) by rw [List.map_append]; rfl] at hG
              obtain ⟨ga2, gc2, rfl⟩ := own_shape hG.own
              have HAP := Lib.hid (HH6.out.app hG)
              have HG7 := Lib.hid hG
              clear hG HSR
              refine hK.out _ _ (⟨(by have := HAP.out.2.1.at' 0 _ rfl; rwa [HWL6.out] at this), HAP.out.2.2.at' th _ (by rw [List.getElem?_map, HX6.out]; rfl)⟩) (fun _ => ?_)
              (try simp only [Act.put, List.setIfInBounds_toArray, List.set_cons_zero, List.set_cons_succ])
              clear hK K
              have hgb := HAP.out.1.at' 0 _ rfl
              have hgf := HAP.out.1.fz 0
              refine runT rfl (fun K hK => ?_)
              go_simp
              clear hgb hgf
              have HH7 := Lib.hid (HH6.out.got HG7.out)
              clear HH6 HAP HG7
              generalize wd4.setCell ⟨gb, 0, none⟩ (.slice ga2 (gl.length + 1) gc2) = w8 at HH7 ⊢
              refine hK.out _ _ (⟨(by have := HH7.out.wbox.at' 0 _ rfl; rwa [HWL6.out] at this), HH7.out.ptr HX6.out⟩) (fun _ => ?_)
              (try simp only [Act.put, List.setIfInBounds_toArray, List.set_cons_zero, List.set_cons_succ])
              clear hK K
              refine seqT_done ?_
              have hwb := HH7.out.wbox.at' 0 _ rfl
              have hpr := HH7.out.ptr HX6.out
              have hrf := HH7.out.rbox.fz th
              rw [HWL6.out] at hwb
              have HH8 := Lib.hid (HH7.out.gone (th := th) (by have := HWL6.out; omega))
              rw [HSS.out] at HH8
              replace hpr : w8.cell? ⟨rb, th, none⟩ = some (pt x2.b) := hpr
              clear HH7
              go_wp2
              refine bodyPost_ret (results_none rfl _ _ _) rfl ?_
              exact ⟨rfl, C', L', _, gl ++ [y], fu, aq1, WsN, had ++ [j], HH8.out, HGR.out, by rw [HGL.out, List.map_append, ← HY.out]; rfl, HL6.out, HON.out, fun x m hx h => .inl HXN.out, by omega, by omega, by rw [List.length_append, List.length_singleton]; omega⟩
            · skip
              refine runT rfl (fun K hK => ?_)
              go_simp
              go_at_call 28
              refine (HH6.out.value HX6.out y HVY.out (fun _ => HTA.out)).mono ?_
              rintro r wd20 ⟨rfl, hb⟩
              (try go_wp2_with fail)
              replace HH6 := Lib.hid (HH6.out.later hb)
              clear hb
              refine hK.out _ _ (⟨(by have := HH6.out.wbox.at' 0 _ rfl; rwa [HWL6.out] at this), HH6.out.ptr HX6.out⟩) (fun _ => ?_)
              (try simp only [Act.put, List.setIfInBounds_toArray, List.set_cons_zero, List.set_cons_succ])
              clear hK K
              refine ⟨?_, ?_⟩
              · skip
                have hgb := HH6.out.gbox.at' 0 _ rfl
                refine runT rfl (fun K hK => ?_)
                go_simp
                clear hgb
                refine hK.out _ _ (⟨(by have := HH6.out.wbox.at' 0 _ rfl; rwa [HWL6.out] at this), HH6.out.ptr HX6.out⟩) (fun _ => ?_)
                (try simp only [Act.put, List.setIfInBounds_toArray, List.set_cons_zero, List.set_cons_succ])
                clear hK K
                refine runT rfl (fun K hK => ?_)
                go_simp
                have hb := below_new (Below.refl wd20.heap.size wd20) (.cells #[.int .u64 y] 39)
                have hsr := src_list wd20 [.int .u64 y] 39 1 1 rfl (one_int _ _)
                replace HH6 := Lib.hid (HH6.out.later hb)
                have HSR := Lib.hid hsr
                clear hb hsr
                generalize wd20.alloc (.cells #[.int .u64 y] 39) = wd22 at HH6 HSR ⊢
                generalize wd20.heap.size = sb at HSR ⊢
                refine hK.out _ _ (⟨(by have := HH6.out.wbox.at' 0 _ rfl; rwa [HWL6.out] at this), HH6.out.ptr HX6.out⟩) (fun _ => ?_)
                (try simp only [Act.put, List.setIfInBounds_toArray, List.set_cons_zero, List.set_cons_succ])
                clear hK K
                refine runT rfl (fun K hK => ?_)
                refine step_append_grew rfl _ _ 56 rfl W.heap.size 39 _ 1 8 elem_u64 (.slice ga gl.length gc) gl.length (gl.map (Value.int .u64)) rfl HH6.out.grow (some ⟨sb, 0, none⟩) 1 1 [.int .u64 y] rfl HSR.out (by unfold maxLen; omega) (by omega) HH6.out.size ?_
                intro gv2 wd23 hG
                rw [show gl.map (Value.int .u64) ++ [.int .u64 y] = (gl ++ [y]).map (Value.int .u64) by rw [List.map_append]; rfl] at hG
                obtain ⟨ga2, gc2, rfl⟩ := own_shape hG.own
                have HAP := Lib.hid (HH6.out.app hG)
                have HG7 := Lib.hid hG
                clear hG HSR
                refine hK.out _ _ (⟨(by have := HAP.out.2.1.at' 0 _ rfl; rwa [HWL6.out] at this), HAP.out.2.2.at' th _ (by rw [List.getElem?_map, HX6.out]; rfl)⟩) (fun _ => ?_)
                (try simp only [Act.put, List.setIfInBounds_toArray, List.set_cons_zero, List.set_cons_succ])
                clear hK K
                have hgb := HAP.out.1.at' 0 _ rfl
                have hgf := HAP.out.1.fz 0
                refine runT rfl (fun K hK => ?_)
                go_simp
                clear hgb hgf
                have HH7 := Lib.hid (HH6.out.got HG7.out)
                clear HH6 HAP HG7
                generalize wd23.setCell ⟨gb, 0, none⟩ (.slice ga2 (gl.length + 1) gc2) = w8 at HH7 ⊢
                refine hK.out _ _ (⟨(by have := HH7.out.wbox.at' 0 _ rfl; rwa [HWL6.out] at this), HH7.out.ptr HX6.out⟩) (fun _ => ?_)
                (try simp only [Act.put, List.setIfInBounds_toArray, List.set_cons_zero, List.set_cons_succ])
                clear hK K
                refine seqT_done ?_
                have hwb := HH7.out.wbox.at' 0 _ rfl
                have hpr := HH7.out.ptr HX6.out
                have hrf := HH7.out.rbox.fz th
                rw [HWL6.out] at hwb
                have HH8 := Lib.hid (HH7.out.gone (th := th) (by have := HWL6.out; omega))
                rw [HSS.out] at HH8
                replace hpr : w8.cell? ⟨rb, th, none⟩ = some (pt x2.b) := hpr
                clear HH7
                go_wp2
                refine bodyPost_ret (results_none rfl _ _ _) rfl ?_
                exact ⟨rfl, C', L', _, gl ++ [y], fu, aq1, WsN, had ++ [j], HH8.out, HGR.out, by rw [HGL.out, List.map_append, ← HY.out]; rfl, HL6.out, HON.out, fun x m hx h => .inl HXN.out, by omega, by omega, by rw [List.length_append, List.length_singleton]; omega⟩
              · skip
                refine runT rfl (fun K hK => ?_)
                go_simp
                have hb := below_new (Below.refl wd20.heap.size wd20) (.cells #[.int .u64 y] 39)
                have hsr := src_list wd20 [.int .u64 y] 39 1 1 rfl (one_int _ _)
                replace HH6 := Lib.hid (HH6.out.later hb)
                have HSR := Lib.hid hsr
                clear hb hsr
                generalize wd20.alloc (.cells #[.int .u64 y] 39) = wd40 at HH6 HSR ⊢
                generalize wd20.heap.size = sb at HSR ⊢
                refine hK.out _ _ (⟨(by have := HH6.out.wbox.at' 0 _ rfl; rwa [HWL6.out] at this), HH6.out.ptr HX6.out⟩) (fun _ => ?_)
                (try simp only [Act.put, List.setIfInBounds_toArray, List.set_cons_zero, List.set_cons_succ])
                clear hK K
                have hgb := HH6.out.gbox.at' 0 _ rfl
                refine runT rfl (fun K hK => ?_)
                go_simp
                clear hgb
                refine hK.out _ _ (⟨(by have := HH6.out.wbox.at' 0 _ rfl; rwa [HWL6.out] at this), HH6.out.ptr HX6.out⟩) (fun _ => ?_)
                (try simp only [Act.put, List.setIfInBounds_toArray, List.set_cons_zero, List.set_cons_succ])
                clear hK K
                refine runT rfl (fun K hK => ?_)
                refine step_append_grew rfl _ _ 56 rfl W.heap.size 39 _ 1 8 elem_u64 (.slice ga gl.length gc) gl.length (gl.map (Value.int .u64)) rfl HH6.out.grow (some ⟨sb, 0, none⟩) 1 1 [.int .u64 y] rfl HSR.out (by unfold maxLen; omega) (by omega) HH6.out.size ?_
                intro gv2 wd42 hG
                rw [show gl.map (Value.int .u64) ++ [.int .u64 y] = (gl ++ [y]).map (Value.int .u64) by rw [List.map_append]; rfl] at hG
                obtain ⟨ga2, gc2, rfl⟩ := own_shape hG.own
                have HAP := Lib.hid (HH6.out.app hG)
                have HG7 := Lib.hid hG
                clear hG HSR
                refine hK.out _ _ (⟨(by have := HAP.out.2.1.at' 0 _ rfl; rwa [HWL6.out] at this), HAP.out.2.2.at' th _ (by rw [List.getElem?_map, HX6.out]; rfl)⟩) (fun _ => ?_)
                (try simp only [Act.put, List.setIfInBounds_toArray, List.set_cons_zero, List.set_cons_succ])
                clear hK K
                have hgb := HAP.out.1.at' 0 _ rfl
                have hgf := HAP.out.1.fz 0
                refine runT rfl (fun K hK => ?_)
                go_simp
                clear hgb hgf
                have HH7 := Lib.hid (HH6.out.got HG7.out)
                clear HH6 HAP HG7
                generalize wd42.setCell ⟨gb, 0, none⟩ (.slice ga2 (gl.length + 1) gc2) = w8 at HH7 ⊢
                refine hK.out _ _ (⟨(by have := HH7.out.wbox.at' 0 _ rfl; rwa [HWL6.out] at this), HH7.out.ptr HX6.out⟩) (fun _ => ?_)
                (try simp only [Act.put, List.setIfInBounds_toArray, List.set_cons_zero, List.set_cons_succ])
                clear hK K
                refine seqT_done ?_
                have hwb := HH7.out.wbox.at' 0 _ rfl
                have hpr := HH7.out.ptr HX6.out
                have hrf := HH7.out.rbox.fz th
                rw [HWL6.out] at hwb
                have HH8 := Lib.hid (HH7.out.gone (th := th) (by have := HWL6.out; omega))
                rw [HSS.out] at HH8
                replace hpr : w8.cell? ⟨rb, th, none⟩ = some (pt x2.b) := hpr
                clear HH7
                go_wp2
                refine bodyPost_ret (results_none rfl _ _ _) rfl ?_
                exact ⟨rfl, C', L', _, gl ++ [y], fu, aq1, WsN, had ++ [j], HH8.out, HGR.out, by rw [HGL.out, List.map_append, ← HY.out]; rfl, HL6.out, HON.out, fun x m hx h => .inl HXN.out, by omega, by omega, by rw [List.length_append, List.length_singleton]; omega⟩
        · rw [hph]
          have HGR := Lib.hid hGR
          clear hGR hph
          as_aux_lemma =>
            have hfb := HH6.out.fbox.at' 0 _ rfl
            have hff := HH6.out.fbox.fz 0
            have hfu : fu < 6000 := by omega
            go_upto_region 10 with fail
            clear hfb hff
            have HH7 := Lib.hid (HH6.out.setFull (fu + 1))
            rw [show (i64 ((fu + 1 : Nat) : Int)) = .int .i64 ((fu : Int) + 1) by rw [Int.natCast_add]; rfl] at HH7
            clear HH6
            generalize w6.setCell ⟨fb, 0, none⟩ (.int .i64 ((fu : Int) + 1)) = w7 at HH7 ⊢
            have hwb := HH7.out.wbox.at' 0 _ rfl
            have hpr := HH7.out.ptr HX6.out
            have hrf := HH7.out.rbox.fz th
            rw [HWL6.out] at hwb
            have HH8 := Lib.hid (HH7.out.gone (th := th) (by have := HWL6.out; omega))
            rw [HSS.out] at HH8
            replace hpr : w7.cell? ⟨rb, th, none⟩ = some (pt x2.b) := hpr
            clear HH7
            go_wp2
            refine bodyPost_ret (results_none rfl _ _ _) rfl ?_
            exact ⟨rfl, C', L', gv, gl, fu + 1, aq1, WsN, had, HH8.out, HGR.out, HGL.out, HL6.out, HON.out, fun x m hx h => .inl HXN.out, by omega, by omega, by omega⟩
    · have hal' : ¬ (aq : Int) < (len4 : Int) := by omega
      obtain ⟨rr, hrr⟩ : ∃ rr, rr = false := ⟨_, rfl⟩
      as_aux_lemma =>
        obtain ⟨ee, hee, hee2⟩ : ∃ e : Int, (if false then (1 : Int) else 0) = e ∧ (e = 0 ∨ e = 1) := ⟨_, rfl, by simp⟩
        have Hee := Lib.hid hee
        clear hee
        go_enter Try.func34, Try.ntmps34
        go_wp2_with fail
        refine wp_region_seqS ((fun w' => AtC w' cb t s 0 0 ∧ w'.cell? ⟨wb, 0, none⟩ = some (.slice (some ⟨rb, 0, none⟩) T T) ∧ w'.cell? ⟨ab, 0, none⟩ = some (i64 aq))) ((0, true) :: (1, true) :: (2, true) :: (3, true) :: (4, true) :: (6, true) :: (5, false) :: (7, false) :: (8, true) :: (9, false) :: []) (by kernel_rfl) (by kernel_rfl) (by kernel_rfl) (by decide) (fun _ _ _ _ _ h => h) (⟨HA.out.later HH.out.drew.below Hs.out, hwb, hab⟩) ?_
        replace HH := Lib.hid HH.out.drew
        clear hwb hab hpr0 he1 
        repeat (first | (refine seq_take (v := ?_) rfl ?_ ?_ ?_; rotate_left 1; rfl; (focus (intro wS hSw; obtain ⟨⟨k0, k1, k2, k3⟩, d0, d1⟩ := hSw; go_simp; first | done | with_reducible rfl)); (try simp only [Act.put, List.setIfInBounds_toArray, List.set_cons_zero, List.set_cons_succ])) | (refine seq_skip rfl ?_ ?_; rfl; (try simp only [Act.put, List.setIfInBounds_toArray, List.set_cons_zero, List.set_cons_succ])))
        refine seq_run rfl (fun K hK => ?_)
        go_simp
        go_at_call 11
        refine (end_at false ee _ Hee.out).mono ?_
        rintro r w2 ⟨rfl, hb⟩
        (try go_wp2_with fail)
        replace HH := Lib.hid (HH.out.later hb)
        clear hb
        refine hK.out _ _ (⟨HA.out.later HH.out.below Hs.out, (by have := HH.out.wbox.at' 0 _ rfl; rwa [HWL.out] at this), HH.out.abox.at' 0 _ rfl⟩) (fun _ => ?_)
        (try simp only [Act.put, List.setIfInBounds_toArray, List.set_cons_zero, List.set_cons_succ])
        clear hK K
        repeat (first | (refine seq_take (v := ?_) rfl ?_ ?_ ?_; rotate_left 1; rfl; (focus (intro wS hSw; obtain ⟨⟨k0, k1, k2, k3⟩, d0, d1⟩ := hSw; go_simp; first | done | with_reducible rfl)); (try simp only [Act.put, List.setIfInBounds_toArray, List.set_cons_zero, List.set_cons_succ])) | (refine seq_skip rfl ?_ ?_; rfl; (try simp only [Act.put, List.setIfInBounds_toArray, List.set_cons_zero, List.set_cons_succ])))
        refine seq_run rfl (fun K hK => ?_)
        go_simp
        go_at_call 10
        refine (genew_any W.heap.size _ N t s 0 0 (th : Int) ee (aq : Int) hlay HH.out.size).mono ?_
        rintro r w3 ⟨b, bs, gs, rfl, hS3, hb3, hbb⟩
        (try go_wp2_with fail)
        have HH3 := Lib.hid (HH.out.newGet (x := ⟨b, bs, gs, none, ge0 t s 0 0 (th : Int) ee (aq : Int) N⟩) HX.out hb3 hS3 hbb)
        have hr3 := HH.out.later hb3
        have HR3 := Lib.hid hr3
        clear hS3 hb3 hbb HH hr3
        refine hK.out _ _ (⟨HA.out.later HR3.out.below Hs.out, (by have := HR3.out.wbox.at' 0 _ rfl; rwa [HWL.out] at this), HR3.out.abox.at' 0 _ rfl⟩) (fun _ => ?_)
        (try simp only [Act.put, List.setIfInBounds_toArray, List.set_cons_zero, List.set_cons_succ])
        clear hK K
        repeat (first | (refine seq_take (v := ?_) rfl ?_ ?_ ?_; rotate_left 1; rfl; (focus (intro wS hSw; obtain ⟨⟨k0, k1, k2, k3⟩, d0, d1⟩ := hSw; go_simp; first | done | with_reducible rfl)); (try simp only [Act.put, List.setIfInBounds_toArray, List.set_cons_zero, List.set_cons_succ])) | (refine seq_skip rfl ?_ ?_; rfl; (try simp only [Act.put, List.setIfInBounds_toArray, List.set_cons_zero, List.set_cons_succ])))
        refine seq_run rfl (fun K hK => ?_)
        go_simp
        have hpp := HR3.out.ptr HX.out
        have hpf := HR3.out.rbox.fz th
        go_simp
        clear hpp hpf HR3
        have HX3 : Hid ((Ws.set th (some ⟨b, bs, gs, none, ge0 t s 0 0 (th : Int) ee (aq : Int) N⟩))[th]? = some (some ⟨b, bs, gs, none, ge0 t s 0 0 (th : Int) ee (aq : Int) N⟩)) := List.getElem?_set_self (by have := HWL.out; omega)
        have HWL3 : Hid ((Ws.set th (some ⟨b, bs, gs, none, ge0 t s 0 0 (th : Int) ee (aq : Int) N⟩)).length = T) := by show _ = _; rw [List.length_set]; exact HWL.out
        have HG3 : Hid (GRace (wKs (Ws.set th (some ⟨b, bs, gs, none, ge0 t s 0 0 (th : Int) ee (aq : Int) N⟩))) C C0 N T had fu (aq + 1) n) := by
          show GRace _ _ _ _ _ _ _ _ _
          rw [wKs_set]
          exact HG.out.begin (wKs_at HX.out) (HG1.out ee hee2) rfl (by show (0 : Int) ≤ (n : Int); omega) (by show (0 : Int) ≤ (n : Int); omega)
        have HOT : Hid (∀ i, i ≠ th → (Ws.set th (some ⟨b, bs, gs, none, ge0 t s 0 0 (th : Int) ee (aq : Int) N⟩))[i]? = Ws[i]?) := fun i hi => List.getElem?_set_ne (fun e => hi e.symm)
        have HNE : Hid (∀ (x : WG) (m : Nat), Ws[th]? = some (some x) → False) := fun x m h => by rw [HX.out] at h; cases h
        clear HG HG1
        generalize hW1 : Ws.set th (some ⟨b, bs, gs, none, ge0 t s 0 0 (th : Int) ee (aq : Int) N⟩) = Ws1 at HH3 HX3 HWL3 HG3 HOT
        generalize hx1 : (⟨b, bs, gs, none, ge0 t s 0 0 (th : Int) ee (aq : Int) N⟩ : WG) = x1 at HX3
        have hbx : b = x1.b := by rw [← hx1]
        clear hW1 hx1
        generalize w3.setCell ⟨rb, th, none⟩ (pt b) = w4 at HH3 ⊢
        refine hK.out _ _ (⟨HA.out.later HH3.out.below Hs.out, (by have := HH3.out.wbox.at' 0 _ rfl; rwa [HWL3.out] at this), HH3.out.abox.at' 0 _ rfl⟩) (fun _ => ?_)
        (try simp only [Act.put, List.setIfInBounds_toArray, List.set_cons_zero, List.set_cons_succ])
        clear hK K
        refine seq_done ?_
        have hab := HH3.out.abox.at' 0 _ rfl
        have haf := HH3.out.abox.fz 0
        go_wp2_with fail
        clear hab haf
        have HH := Lib.hid (HH3.out.setAsk (aq + 1))
        rw [show (i64 ((aq + 1 : Nat) : Int)) = .int .i64 ((aq : Int) + 1) by rw [Int.natCast_add]; rfl] at HH
        clear HH3
        generalize w4.setCell ⟨ab, 0, none⟩ (.int .i64 ((aq : Int) + 1)) = wc at HH ⊢
        have HENDS : Hid (∀ (x : WG) (m : Nat), Ws[th]? = some (some x) → Ends N (2 * N + th) (m + 1) x.k C → Ends N (2 * N + th) (m + 1) x1.k C) := fun x m h => (HNE.out x m h).elim
        clear HNE hbx
        have haq1 : aq + 1 ≤ n + 1 := by omega
        generalize aq + 1 = aq1 at HH HG3 haq1

        have hpr := HH.out.ptr HX3.out
        have hwb := HH.out.wbox.at' 0 _ rfl
        have hmb := HH.out.mbox.at' 0 _ rfl
        rw [HWL3.out] at hwb
        replace hpr : wc.cell? ⟨rb, th, none⟩ = some (pt x1.b) := hpr
        refine wp_region_seqS ((fun w' => w'.cell? ⟨wb, 0, none⟩ = some (.slice (some ⟨rb, 0, none⟩) T T) ∧ w'.cell? ⟨rb, th, none⟩ = some (pt x1.b) ∧ w'.cell? ⟨mb, 0, none⟩ = some (pt p))) ((0, true) :: (1, true) :: (2, true) :: (3, true) :: (4, true) :: (5, false) :: []) (by kernel_rfl) (by kernel_rfl) (by kernel_rfl) (by decide) (fun _ _ _ _ _ h => h) (⟨hwb, hpr, hmb⟩) ?_
        replace HH := Lib.hid HH.out.drew
        clear hpr hwb hmb
        repeat (first | (refine seq_take (v := ?_) rfl ?_ ?_ ?_; rotate_left 1; rfl; (focus (intro wS hSw; obtain ⟨d0, d1, d2⟩ := hSw; go_simp; first | done | with_reducible rfl)); (try simp only [Act.put, List.setIfInBounds_toArray, List.set_cons_zero, List.set_cons_succ])) | (refine seq_skip rfl ?_ ?_; rfl; (try simp only [Act.put, List.setIfInBounds_toArray, List.set_cons_zero, List.set_cons_succ])))
        refine seq_run rfl (fun K hK => ?_)
        go_simp
        have hok := (HG3.out.gets th x1.k (wKs_at HX3.out)).1
        have hok1 := hok.ok
        have HOK := Lib.hid hok
        clear hok
        go_at_call 25
        refine (HH.out.call HX3.out hok1 (by have := HL.out; omega)).mono ?_
        rintro r w6 ⟨z, hz, rfl, bs', gs', bt', hH⟩
        (try go_wp2_with fail)
        have hgo := HG3.out.go (wKs_at HX3.out) hz HH.out.fit (by omega)
        have hen : ∀ m, Ends N (2 * N + th) (m + 1) x1.k C → Ends N (2 * N + th) m (x1.k.step N (2 * N + th) C z) (x1.k.cells N (2 * N + th) C) := fun m h => by
          rcases h with h | h
          · exact absurd HOK.out.ph h
          · exact h z hz HH.out.fit
        have HL6 : Hid ((L ++ x1.k.ev N (2 * N + th) C).length ≤ L.length + 1) := by have := Ge.ev_le x1.k N (2 * N + th) C; show _ ≤ _; rw [List.length_append]; omega
        have HEN := Lib.hid hen
        have HH6 := Lib.hid hH
        clear hH hz hok1 HH HOK hen HG3
        have hgo' : ((x1.k.step N (2 * N + th) C z).ph = 0 ∧ GRace (wKs (Ws1.set th (some ⟨x1.b, bs', gs', bt', x1.k.step N (2 * N + th) C z⟩))) (x1.k.cells N (2 * N + th) C) C0 N T had fu aq1 (n + 1)) ∨
            ((x1.k.step N (2 * N + th) C z).ph = 1 ∧ (∃ j, (x1.k.step N (2 * N + th) C z).val = C0.getD (N + j) 0 ∧ GRace (wKs (Ws1.set th none)) (x1.k.cells N (2 * N + th) C) C0 N T (had ++ [j]) fu aq1 (n + 1)) ∧ (x1.k.step N (2 * N + th) C z).ta ≠ none) ∨
            ((x1.k.step N (2 * N + th) C z).ph = 2 ∧ GRace (wKs (Ws1.set th none)) (x1.k.cells N (2 * N + th) C) C0 N T had (fu + 1) aq1 (n + 1)) := by
          rw [wKs_set, wKs_set]
          exact hgo
        clear hgo
        have HX6 : Hid ((Ws1.set th (some ⟨x1.b, bs', gs', bt', x1.k.step N (2 * N + th) C z⟩))[th]? = some (some ⟨x1.b, bs', gs', bt', x1.k.step N (2 * N + th) C z⟩)) := List.getElem?_set_self (by have := HWL3.out; omega)
        have HXN : Hid ((Ws1.set th none)[th]? = some none) := List.getElem?_set_self (by have := HWL3.out; omega)
        have HWL6 : Hid ((Ws1.set th (some ⟨x1.b, bs', gs', bt', x1.k.step N (2 * N + th) C z⟩)).length = T) := by show _ = _; rw [List.length_set]; exact HWL3.out
        have HO6 : Hid (∀ i, i ≠ th → (Ws1.set th (some ⟨x1.b, bs', gs', bt', x1.k.step N (2 * N + th) C z⟩))[i]? = Ws[i]?) := fun i hi => (List.getElem?_set_ne (fun e => hi e.symm)).trans (HOT.out i hi)
        have HON : Hid (∀ i, i ≠ th → (Ws1.set th none)[i]? = Ws[i]?) := fun i hi => (List.getElem?_set_ne (fun e => hi e.symm)).trans (HOT.out i hi)
        have HSS : Hid ((Ws1.set th (some ⟨x1.b, bs', gs', bt', x1.k.step N (2 * N + th) C z⟩)).set th none = Ws1.set th none) := List.set_set ..
        clear HOT
        generalize x1.k.step N (2 * N + th) C z = k' at *
        generalize x1.k.cells N (2 * N + th) C = C' at *
        generalize L ++ x1.k.ev N (2 * N + th) C = L' at *
        generalize hW2 : Ws1.set th (some ⟨x1.b, bs', gs', bt', k'⟩) = Ws2 at *
        generalize hx2 : (⟨x1.b, bs', gs', bt', k'⟩ : WG) = x2 at *
        have hx2b : x1.b = x2.b := by rw [← hx2]
        have hx2k : k' = x2.k := by rw [← hx2]
        clear hW2 hx2
        generalize Ws1.set th none = WsN at *
        have hwb := HH6.out.wbox.at' 0 _ rfl
        have hpr := HH6.out.ptr HX6.out
        have hmb := HH6.out.mbox.at' 0 _ rfl
        rw [HWL6.out] at hwb
        have hpr1 : w6.cell? ⟨rb, th, none⟩ = some (pt x1.b) := by rw [hx2b]; exact hpr
        refine hK.out _ _ (⟨hwb, hpr1, hmb⟩) (fun _ => ?_)
        (try simp only [Act.put, List.setIfInBounds_toArray, List.set_cons_zero, List.set_cons_succ])
        clear hK K
        refine seq_done ?_
        clear hmb hpr hpr1 hwb
        rcases hgo' with ⟨hph, hGR⟩ | ⟨hph, ⟨j, hval, hGR⟩, hta⟩ | ⟨hph, hGR⟩
        · rw [hph]
          have HGR := Lib.hid hGR
          clear hGR hph
          as_aux_lemma =>
            go_wp2
            refine bodyPost_ret (results_none rfl _ _ _) rfl ?_
            exact ⟨rfl, C', L', gv, gl, fu, aq1, Ws2, had, HH6.out, HGR.out, HGL.out, HL6.out, HO6.out, fun x m hx h => .inr ⟨x2, HX6.out, hx2k ▸ HEN.out m (HENDS.out x m hx h)⟩, by omega, by omega, by omega⟩
        · rw [hph]
          have HGR := Lib.hid hGR
          have HTA : Hid (x2.k.ta ≠ none) := hx2k ▸ hta
          have HVAL : Hid (x2.k.val = C0.getD (N + j) 0) := hx2k ▸ hval
          clear hGR hph hta hval
          as_aux_lemma =>
            have hwb := HH6.out.wbox.at' 0 _ rfl
            have hpr := HH6.out.ptr HX6.out
            have hgb := HH6.out.gbox.at' 0 _ rfl
            rw [HWL6.out] at hwb
            replace hpr : w6.cell? ⟨rb, th, none⟩ = some (pt x2.b) := hpr
            obtain ⟨ga, gc, rfl⟩ := own_shape HH6.out.grow
            obtain ⟨y, hy⟩ : ∃ y, C0.getD (N + j) 0 = y := ⟨_, rfl⟩
            have HVY : Hid (x2.k.val = y) := HVAL.out.trans hy
            have HY := Lib.hid hy
            clear hy
            clear hgb
            go_upto_region 6 with fail
            replace HH6 := Lib.hid HH6.out.drew
            refine wp_region_seqT (fun w' => w'.cell? ⟨wb, 0, none⟩ = some (.slice (some ⟨rb, 0, none⟩) T T) ∧ w'.cell? ⟨rb, th, none⟩ = some (pt x2.b)) (.take 1 (.take 2 (.take 3 (.take 4 (.two 0 (.one 5 (.one 6 (.one 7 (.one 8 .nil)))) 5 (.two 0 (.one 6 (.one 7 (.one 8 .nil))) 6 (.one 0 (.one 7 (.one 8 .nil))))))))) (by kernel_rfl) (by kernel_rfl) (by kernel_rfl) (by decide) (fun _ _ _ _ _ h => h) ⟨hwb, hpr⟩ ?_
            clear hwb hpr
            repeat (refine seqT_take (v := ?_) rfl ?_ ?_ ?_; rotate_left 1; rfl; (focus (intro wS hSw; obtain ⟨d0, d1⟩ := hSw; go_simp; first | done | with_reducible rfl)); (try simp only [Act.put, List.setIfInBounds_toArray, List.set_cons_zero, List.set_cons_succ]))
            generalize w6.drew = wd at HH6 ⊢
            refine ⟨?_, ?_⟩
            · skip
              have hgb := HH6.out.gbox.at' 0 _ rfl
              refine runT rfl (fun K hK => ?_)
              go_simp
              clear hgb
              refine hK.out _ _ (⟨(by have := HH6.out.wbox.at' 0 _ rfl; rwa [HWL6.out] at this), HH6.out.ptr HX6.out⟩) (fun _ => ?_)
              (try simp only [Act.put, List.setIfInBounds_toArray, List.set_cons_zero, List.set_cons_succ])
              clear hK K
              refine runT rfl (fun K hK => ?_)
              go_simp
              go_at_call 28
              refine (HH6.out.value HX6.out y HVY.out (fun _ => HTA.out)).mono ?_
              rintro r wd2 ⟨rfl, hb⟩
              (try go_wp2_with fail)
              replace HH6 := Lib.hid (HH6.out.later hb)
              clear hb
              refine hK.out _ _ (⟨(by have := HH6.out.wbox.at' 0 _ rfl; rwa [HWL6.out] at this), HH6.out.ptr HX6.out⟩) (fun _ => ?_)
              (try simp only [Act.put, List.setIfInBounds_toArray, List.set_cons_zero, List.set_cons_succ])
              clear hK K
              refine runT rfl (fun K hK => ?_)
              go_simp
              have hb := below_new (Below.refl wd2.heap.size wd2) (.cells #[.int .u64 y] 39)
              have hsr := src_list wd2 [.int .u64 y] 39 1 1 rfl (one_int _ _)
              replace HH6 := Lib.hid (HH6.out.later hb)
              have HSR := Lib.hid hsr
              clear hb hsr
              generalize wd2.alloc (.cells #[.int .u64 y] 39) = wd3 at HH6 HSR ⊢
              generalize wd2.heap.size = sb at HSR ⊢
              refine hK.out _ _ (⟨(by have := HH6.out.wbox.at' 0 _ rfl; rwa [HWL6.out] at this), HH6.out.ptr HX6.out⟩) (fun _ => ?_)
              (try simp only [Act.put, List.setIfInBounds_toArray, List.set_cons_zero, List.set_cons_succ])
              clear hK K
              refine runT rfl (fun K hK => ?_)
              refine step_append_grew rfl _ _ 56 rfl W.heap.size 39 _ 1 8 elem_u64 (.slice ga gl.length gc) gl.length (gl.map (Value.int .u64)) rfl HH6.out.grow (some ⟨sb, 0, none⟩) 1 1 [.int .u64 y] rfl HSR.out (by unfold maxLen; omega) (by omega) HH6.out.size ?_
              intro gv2 wd4 hG
              rw [show gl.map (Value.int .u64) ++ [.int .u64 y] = (gl ++ [y]).map (Value.int .u64) by rw [List.map_append]; rfl] at hG
              obtain ⟨ga2, gc2, rfl⟩ := own_shape hG.own
              have HAP := Lib.hid (HH6.out.app hG)
              have HG7 := Lib.hid hG
              clear hG HSR
              refine hK.out _ _ (⟨(by have := HAP.out.2.1.at' 0 _ rfl; rwa [HWL6.out] at this), HAP.out.2.2.at' th _ (by rw [List.getElem?_map, HX6.out]; rfl)⟩) (fun _ => ?_)
              (try simp only [Act.put, List.setIfInBounds_toArray, List.set_cons_zero, List.set_cons_succ])
              clear hK K
              have hgb := HAP.out.1.at' 0 _ rfl
              have hgf := HAP.out.1.fz 0
              refine runT rfl (fun K hK => ?_)
              go_simp
              clear hgb hgf
              have HH7 := Lib.hid (HH6.out.got HG7.out)
              clear HH6 HAP HG7
              generalize wd4.setCell ⟨gb, 0, none⟩ (.slice ga2 (gl.length + 1) gc2) = w8 at HH7 ⊢
              refine hK.out _ _ (⟨(by have := HH7.out.wbox.at' 0 _ rfl; rwa [HWL6.out] at this), HH7.out.ptr HX6.out⟩) (fun _ => ?_)
              (try simp only [Act.put, List.setIfInBounds_toArray, List.set_cons_zero, List.set_cons_succ])
              clear hK K
              refine seqT_done ?_
              have hwb := HH7.out.wbox.at' 0 _ rfl
              have hpr := HH7.out.ptr HX6.out
              have hrf := HH7.out.rbox.fz th
              rw [HWL6.out] at hwb
              have HH8 := Lib.hid (HH7.out.gone (th := th) (by have := HWL6.out; omega))
              rw [HSS.out] at HH8
              replace hpr : w8.cell? ⟨rb, th, none⟩ = some (pt x2.b) := hpr
              clear HH7
              go_wp2
              refine bodyPost_ret (results_none rfl _ _ _) rfl ?_
              exact ⟨rfl, C', L', _, gl ++ [y], fu, aq1, WsN, had ++ [j], HH8.out, HGR.out, by rw [HGL.out, List.map_append, ← HY.out]; rfl, HL6.out, HON.out, fun x m hx h => .inl HXN.out, by omega, by omega, by rw [List.length_append, List.length_singleton]; omega⟩
            · skip
              refine runT rfl (fun K hK => ?_)
              go_simp
              go_at_call 28
              refine (HH6.out.value HX6.out y HVY.out (fun _ => HTA.out)).mono ?_
              rintro r wd20 ⟨rfl, hb⟩
              (try go_wp2_with fail)
              replace HH6 := Lib.hid (HH6.out.later hb)
              clear hb
              refine hK.out _ _ (⟨(by have := HH6.out.wbox.at' 0 _ rfl; rwa [HWL6.out] at this), HH6.out.ptr HX6.out⟩) (fun _ => ?_)
              (try simp only [Act.put, List.setIfInBounds_toArray, List.set_cons_zero, List.set_cons_succ])
              clear hK K
              refine ⟨?_, ?_⟩
              · skip
                have hgb := HH6.out.gbox.at' 0 _ rfl
                refine runT rfl (fun K hK => ?_)
                go_simp
                clear hgb
                refine hK.out _ _ (⟨(by have := HH6.out.wbox.at' 0 _ rfl; rwa [HWL6.out] at this), HH6.out.ptr HX6.out⟩) (fun _ => ?_)
                (try simp only [Act.put, List.setIfInBounds_toArray, List.set_cons_zero, List.set_cons_succ])
                clear hK K
                refine runT rfl (fun K hK => ?_)
                go_simp
                have hb := below_new (Below.refl wd20.heap.size wd20) (.cells #[.int .u64 y] 39)
                have hsr := src_list wd20 [.int .u64 y] 39 1 1 rfl (one_int _ _)
                replace HH6 := Lib.hid (HH6.out.later hb)
                have HSR := Lib.hid hsr
                clear hb hsr
                generalize wd20.alloc (.cells #[.int .u64 y] 39) = wd22 at HH6 HSR ⊢
                generalize wd20.heap.size = sb at HSR ⊢
                refine hK.out _ _ (⟨(by have := HH6.out.wbox.at' 0 _ rfl; rwa [HWL6.out] at this), HH6.out.ptr HX6.out⟩) (fun _ => ?_)
                (try simp only [Act.put, List.setIfInBounds_toArray, List.set_cons_zero, List.set_cons_succ])
                clear hK K
                refine runT rfl (fun K hK => ?_)
                refine step_append_grew rfl _ _ 56 rfl W.heap.size 39 _ 1 8 elem_u64 (.slice ga gl.length gc) gl.length (gl.map (Value.int .u64)) rfl HH6.out.grow (some ⟨sb, 0, none⟩) 1 1 [.int .u64 y] rfl HSR.out (by unfold maxLen; omega) (by omega) HH6.out.size ?_
                intro gv2 wd23 hG
                rw [show gl.map (Value.int .u64) ++ [.int .u64 y] = (gl ++ [y]).map (Value.int .u64) by rw [List.map_append]; rfl] at hG
                obtain ⟨ga2, gc2, rfl⟩ := own_shape hG.own
                have HAP := Lib.hid (HH6.out.app hG)
                have HG7 := Lib.hid hG
                clear hG HSR
                refine hK.out _ _ (⟨(by have := HAP.out.2.1.at' 0 _ rfl; rwa [HWL6.out] at this), HAP.out.2.2.at' th _ (by rw [List.getElem?_map, HX6.out]; rfl)⟩) (fun _ => ?_)
                (try simp only [Act.put, List.setIfInBounds_toArray, List.set_cons_zero, List.set_cons_succ])
                clear hK K
                have hgb := HAP.out.1.at' 0 _ rfl
                have hgf := HAP.out.1.fz 0
                refine runT rfl (fun K hK => ?_)
                go_simp
                clear hgb hgf
                have HH7 := Lib.hid (HH6.out.got HG7.out)
                clear HH6 HAP HG7
                generalize wd23.setCell ⟨gb, 0, none⟩ (.slice ga2 (gl.length + 1) gc2) = w8 at HH7 ⊢
                refine hK.out _ _ (⟨(by have := HH7.out.wbox.at' 0 _ rfl; rwa [HWL6.out] at this), HH7.out.ptr HX6.out⟩) (fun _ => ?_)
                (try simp only [Act.put, List.setIfInBounds_toArray, List.set_cons_zero, List.set_cons_succ])
                clear hK K
                refine seqT_done ?_
                have hwb := HH7.out.wbox.at' 0 _ rfl
                have hpr := HH7.out.ptr HX6.out
                have hrf := HH7.out.rbox.fz th
                rw [HWL6.out] at hwb
                have HH8 := Lib.hid (HH7.out.gone (th := th) (by have := HWL6.out; omega))
                rw [HSS.out] at HH8
                replace hpr : w8.cell? ⟨rb, th, none⟩ = some (pt x2.b) := hpr
                clear HH7
                go_wp2
                refine bodyPost_ret (results_none rfl _ _ _) rfl ?_
                exact ⟨rfl, C', L', _, gl ++ [y], fu, aq1, WsN, had ++ [j], HH8.out, HGR.out, by rw [HGL.out, List.map_append, ← HY.out]; rfl, HL6.out, HON.out, fun x m hx h => .inl HXN.out, by omega, by omega, by rw [List.length_append, List.length_singleton]; omega⟩
              · skip
                refine runT rfl (fun K hK => ?_)
                go_simp
                have hb := below_new (Below.refl wd20.heap.size wd20) (.cells #[.int .u64 y] 39)
                have hsr := src_list wd20 [.int .u64 y] 39 1 1 rfl (one_int _ _)
                replace HH6 := Lib.hid (HH6.out.later hb)
                have HSR := Lib.hid hsr
                clear hb hsr
                generalize wd20.alloc (.cells #[.int .u64 y] 39) = wd40 at HH6 HSR ⊢
                generalize wd20.heap.size = sb at HSR ⊢
                refine hK.out _ _ (⟨(by have := HH6.out.wbox.at' 0 _ rfl; rwa [HWL6.out] at this), HH6.out.ptr HX6.out⟩) (fun _ => ?_)
                (try simp only [Act.put, List.setIfInBounds_toArray, List.set_cons_zero, List.set_cons_succ])
                clear hK K
                have hgb := HH6.out.gbox.at' 0 _ rfl
                refine runT rfl (fun K hK => ?_)
                go_simp
                clear hgb
                refine hK.out _ _ (⟨(by have := HH6.out.wbox.at' 0 _ rfl; rwa [HWL6.out] at this), HH6.out.ptr HX6.out⟩) (fun _ => ?_)
                (try simp only [Act.put, List.setIfInBounds_toArray, List.set_cons_zero, List.set_cons_succ])
                clear hK K
                refine runT rfl (fun K hK => ?_)
                refine step_append_grew rfl _ _ 56 rfl W.heap.size 39 _ 1 8 elem_u64 (.slice ga gl.length gc) gl.length (gl.map (Value.int .u64)) rfl HH6.out.grow (some ⟨sb, 0, none⟩) 1 1 [.int .u64 y] rfl HSR.out (by unfold maxLen; omega) (by omega) HH6.out.size ?_
                intro gv2 wd42 hG
                rw [show gl.map (Value.int .u64) ++ [.int .u64 y] = (gl ++ [y]).map (Value.int .u64) by rw [List.map_append]; rfl] at hG
                obtain ⟨ga2, gc2, rfl⟩ := own_shape hG.own
                have HAP := Lib.hid (HH6.out.app hG)
                have HG7 := Lib.hid hG
                clear hG HSR
                refine hK.out _ _ (⟨(by have := HAP.out.2.1.at' 0 _ rfl; rwa [HWL6.out] at this), HAP.out.2.2.at' th _ (by rw [List.getElem?_map, HX6.out]; rfl)⟩) (fun _ => ?_)
                (try simp only [Act.put, List.setIfInBounds_toArray, List.set_cons_zero, List.set_cons_succ])
                clear hK K
                have hgb := HAP.out.1.at' 0 _ rfl
                have hgf := HAP.out.1.fz 0
                refine runT rfl (fun K hK => ?_)
                go_simp
                clear hgb hgf
                have HH7 := Lib.hid (HH6.out.got HG7.out)
                clear HH6 HAP HG7
                generalize wd42.setCell ⟨gb, 0, none⟩ (.slice ga2 (gl.length + 1) gc2) = w8 at HH7 ⊢
                refine hK.out _ _ (⟨(by have := HH7.out.wbox.at' 0 _ rfl; rwa [HWL6.out] at this), HH7.out.ptr HX6.out⟩) (fun _ => ?_)
                (try simp only [Act.put, List.setIfInBounds_toArray, List.set_cons_zero, List.set_cons_succ])
                clear hK K
                refine seqT_done ?_
                have hwb := HH7.out.wbox.at' 0 _ rfl
                have hpr := HH7.out.ptr HX6.out
                have hrf := HH7.out.rbox.fz th
                rw [HWL6.out] at hwb
                have HH8 := Lib.hid (HH7.out.gone (th := th) (by have := HWL6.out; omega))
                rw [HSS.out] at HH8
                replace hpr : w8.cell? ⟨rb, th, none⟩ = some (pt x2.b) := hpr
                clear HH7
                go_wp2
                refine bodyPost_ret (results_none rfl _ _ _) rfl ?_
                exact ⟨rfl, C', L', _, gl ++ [y], fu, aq1, WsN, had ++ [j], HH8.out, HGR.out, by rw [HGL.out, List.map_append, ← HY.out]; rfl, HL6.out, HON.out, fun x m hx h => .inl HXN.out, by omega, by omega, by rw [List.length_append, List.length_singleton]; omega⟩
        · rw [hph]
          have HGR := Lib.hid hGR
          clear hGR hph
          as_aux_lemma =>
            have hfb := HH6.out.fbox.at' 0 _ rfl
            have hff := HH6.out.fbox.fz 0
            have hfu : fu < 6000 := by omega
            go_upto_region 10 with fail
            clear hfb hff
            have HH7 := Lib.hid (HH6.out.setFull (fu + 1))
            rw [show (i64 ((fu + 1 : Nat) : Int)) = .int .i64 ((fu : Int) + 1) by rw [Int.natCast_add]; rfl] at HH7
            clear HH6
            generalize w6.setCell ⟨fb, 0, none⟩ (.int .i64 ((fu : Int) + 1)) = w7 at HH7 ⊢
            have hwb := HH7.out.wbox.at' 0 _ rfl
            have hpr := HH7.out.ptr HX6.out
            have hrf := HH7.out.rbox.fz th
            rw [HWL6.out] at hwb
            have HH8 := Lib.hid (HH7.out.gone (th := th) (by have := HWL6.out; omega))
            rw [HSS.out] at HH8
            replace hpr : w7.cell? ⟨rb, th, none⟩ = some (pt x2.b) := hpr
            clear HH7
            go_wp2
            refine bodyPost_ret (results_none rfl _ _ _) rfl ?_
            exact ⟨rfl, C', L', gv, gl, fu + 1, aq1, WsN, had, HH8.out, HGR.out, HGL.out, HL6.out, HON.out, fun x m hx h => .inl HXN.out, by omega, by omega, by omega⟩
  | some x =>
    as_aux_lemma =>
      have HX3 := Lib.hid HX.out
      have HWL3 := Lib.hid HWL.out
      have HG3 := Lib.hid HG.out
      have HENDS : Hid (∀ (x' : WG) (m : Nat), Ws[th]? = some (some x') → Ends N (2 * N + th) (m + 1) x'.k C → Ends N (2 * N + th) (m + 1) x.k C) := fun x' m h e => by rw [HX.out] at h; cases h; exact e
      replace hpr : w.cell? ⟨rb, th, none⟩ = some (pt x.b) := hpr
      clear HG
      go_enter Try.func34, Try.ntmps34
      go_wp2_with fail
      clear hwb hpr he1
      obtain ⟨x1, rfl⟩ : ∃ x1, x1 = x := ⟨_, rfl⟩

      have hpr := HH.out.ptr HX3.out
      have hwb := HH.out.wbox.at' 0 _ rfl
      have hmb := HH.out.mbox.at' 0 _ rfl
      rw [HWL3.out] at hwb
      replace hpr : w.cell? ⟨rb, th, none⟩ = some (pt x1.b) := hpr
      refine wp_region_seqS ((fun w' => w'.cell? ⟨wb, 0, none⟩ = some (.slice (some ⟨rb, 0, none⟩) T T) ∧ w'.cell? ⟨rb, th, none⟩ = some (pt x1.b) ∧ w'.cell? ⟨mb, 0, none⟩ = some (pt p))) ((0, true) :: (1, true) :: (2, true) :: (3, true) :: (4, true) :: (5, false) :: []) (by kernel_rfl) (by kernel_rfl) (by kernel_rfl) (by decide) (fun _ _ _ _ _ h => h) (⟨hwb, hpr, hmb⟩) ?_
      replace HH := Lib.hid HH.out.drew
      clear hpr hwb hmb
      repeat (first | (refine seq_take (v := ?_) rfl ?_ ?_ ?_; rotate_left 1; rfl; (focus (intro wS hSw; obtain ⟨d0, d1, d2⟩ := hSw; go_simp; first | done | with_reducible rfl)); (try simp only [Act.put, List.setIfInBounds_toArray, List.set_cons_zero, List.set_cons_succ])) | (refine seq_skip rfl ?_ ?_; rfl; (try simp only [Act.put, List.setIfInBounds_toArray, List.set_cons_zero, List.set_cons_succ])))
      refine seq_run rfl (fun K hK => ?_)
      go_simp
      have hok := (HG3.out.gets th x1.k (wKs_at HX3.out)).1
      have hok1 := hok.ok
      have HOK := Lib.hid hok
      clear hok
      go_at_call 25
      refine (HH.out.call HX3.out hok1 (by have := HL.out; omega)).mono ?_
      rintro r w6 ⟨z, hz, rfl, bs', gs', bt', hH⟩
      (try go_wp2_with fail)
      have hgo := HG3.out.go (wKs_at HX3.out) hz HH.out.fit (by omega)
      have hen : ∀ m, Ends N (2 * N + th) (m + 1) x1.k C → Ends N (2 * N + th) m (x1.k.step N (2 * N + th) C z) (x1.k.cells N (2 * N + th) C) := fun m h => by
        rcases h with h | h
        · exact absurd HOK.out.ph h
        · exact h z hz HH.out.fit
      have HL6 : Hid ((L ++ x1.k.ev N (2 * N + th) C).length ≤ L.length + 1) := by have := Ge.ev_le x1.k N (2 * N + th) C; show _ ≤ _; rw [List.length_append]; omega
      have HEN := Lib.hid hen
      have HH6 := Lib.hid hH
      clear hH hz hok1 HH HOK hen HG3
      have hgo' : ((x1.k.step N (2 * N + th) C z).ph = 0 ∧ GRace (wKs (Ws.set th (some ⟨x1.b, bs', gs', bt', x1.k.step N (2 * N + th) C z⟩))) (x1.k.cells N (2 * N + th) C) C0 N T had fu aq (n + 1)) ∨
          ((x1.k.step N (2 * N + th) C z).ph = 1 ∧ (∃ j, (x1.k.step N (2 * N + th) C z).val = C0.getD (N + j) 0 ∧ GRace (wKs (Ws.set th none)) (x1.k.cells N (2 * N + th) C) C0 N T (had ++ [j]) fu aq (n + 1)) ∧ (x1.k.step N (2 * N + th) C z).ta ≠ none) ∨
          ((x1.k.step N (2 * N + th) C z).ph = 2 ∧ GRace (wKs (Ws.set th none)) (x1.k.cells N (2 * N + th) C) C0 N T had (fu + 1) aq (n + 1)) := by
        rw [wKs_set, wKs_set]
        exact hgo
      clear hgo
      have HX6 : Hid ((Ws.set th (some ⟨x1.b, bs', gs', bt', x1.k.step N (2 * N + th) C z⟩))[th]? = some (some ⟨x1.b, bs', gs', bt', x1.k.step N (2 * N + th) C z⟩)) := List.getElem?_set_self (by have := HWL3.out; omega)
      have HXN : Hid ((Ws.set th none)[th]? = some none) := List.getElem?_set_self (by have := HWL3.out; omega)
      have HWL6 : Hid ((Ws.set th (some ⟨x1.b, bs', gs', bt', x1.k.step N (2 * N + th) C z⟩)).length = T) := by show _ = _; rw [List.length_set]; exact HWL3.out
      have HO6 : Hid (∀ i, i ≠ th → (Ws.set th (some ⟨x1.b, bs', gs', bt', x1.k.step N (2 * N + th) C z⟩))[i]? = Ws[i]?) := fun i hi => List.getElem?_set_ne (fun e => hi e.symm)
      have HON : Hid (∀ i, i ≠ th → (Ws.set th none)[i]? = Ws[i]?) := fun i hi => List.getElem?_set_ne (fun e => hi e.symm)
      have HSS : Hid ((Ws.set th (some ⟨x1.b, bs', gs', bt', x1.k.step N (2 * N + th) C z⟩)).set th none = Ws.set th none) := List.set_set ..
      generalize x1.k.step N (2 * N + th) C z = k' at *
      generalize x1.k.cells N (2 * N + th) C = C' at *
      generalize L ++ x1.k.ev N (2 * N + th) C = L' at *
      generalize hW2 : Ws.set th (some ⟨x1.b, bs', gs', bt', k'⟩) = Ws2 at *
      generalize hx2 : (⟨x1.b, bs', gs', bt', k'⟩ : WG) = x2 at *
      have hx2b : x1.b = x2.b := by rw [← hx2]
      have hx2k : k' = x2.k := by rw [← hx2]
      clear hW2 hx2
      generalize Ws.set th none = WsN at *
      have hwb := HH6.out.wbox.at' 0 _ rfl
      have hpr := HH6.out.ptr HX6.out
      have hmb := HH6.out.mbox.at' 0 _ rfl
      rw [HWL6.out] at hwb
      have hpr1 : w6.cell? ⟨rb, th, none⟩ = some (pt x1.b) := by rw [hx2b]; exact hpr
      refine hK.out _ _ (⟨hwb, hpr1, hmb⟩) (fun _ => ?_)
      (try simp only [Act.put, List.setIfInBounds_toArray, List.set_cons_zero, List.set_cons_succ])
      clear hK K
      refine seq_done ?_
      clear hmb hpr hpr1 hwb
      rcases hgo' with ⟨hph, hGR⟩ | ⟨hph, ⟨j, hval, hGR⟩, hta⟩ | ⟨hph, hGR⟩
      · rw [hph]
        have HGR := Lib.hid hGR
        clear hGR hph
        as_aux_lemma =>
          go_wp2
          refine bodyPost_ret (results_none rfl _ _ _) rfl ?_
          exact ⟨rfl, C', L', gv, gl, fu, aq, Ws2, had, HH6.out, HGR.out, HGL.out, HL6.out, HO6.out, fun x m hx h => .inr ⟨x2, HX6.out, hx2k ▸ HEN.out m (HENDS.out x m hx h)⟩, by omega, by omega, by omega⟩
      · rw [hph]
        have HGR := Lib.hid hGR
        have HTA : Hid (x2.k.ta ≠ none) := hx2k ▸ hta
        have HVAL : Hid (x2.k.val = C0.getD (N + j) 0) := hx2k ▸ hval
        clear hGR hph hta hval
        as_aux_lemma =>
          have hwb := HH6.out.wbox.at' 0 _ rfl
          have hpr := HH6.out.ptr HX6.out
          have hgb := HH6.out.gbox.at' 0 _ rfl
          rw [HWL6.out] at hwb
          replace hpr : w6.cell? ⟨rb, th, none⟩ = some (pt x2.b) := hpr
          obtain ⟨ga, gc, rfl⟩ := own_shape HH6.out.grow
          obtain ⟨y, hy⟩ : ∃ y, C0.getD (N + j) 0 = y := ⟨_, rfl⟩
          have HVY : Hid (x2.k.val = y) := HVAL.out.trans hy
          have HY := Lib.hid hy
          clear hy
          clear hgb
          go_upto_region 6 with fail
          replace HH6 := Lib.hid HH6.out.drew
          refine wp_region_seqT (fun w' => w'.cell? ⟨wb, 0, none⟩ = some (.slice (some ⟨rb, 0, none⟩) T T) ∧ w'.cell? ⟨rb, th, none⟩ = some (pt x2.b)) (.take 1 (.take 2 (.take 3 (.take 4 (.two 0 (.one 5 (.one 6 (.one 7 (.one 8 .nil)))) 5 (.two 0 (.one 6 (.one 7 (.one 8 .nil))) 6 (.one 0 (.one 7 (.one 8 .nil))))))))) (by kernel_rfl) (by kernel_rfl) (by kernel_rfl) (by decide) (fun _ _ _ _ _ h => h) ⟨hwb, hpr⟩ ?_
          clear hwb hpr
          repeat (refine seqT_take (v := ?_) rfl ?_ ?_ ?_; rotate_left 1; rfl; (focus (intro wS hSw; obtain ⟨d0, d1⟩ := hSw; go_simp; first | done | with_reducible rfl)); (try simp only [Act.put, List.setIfInBounds_toArray, List.set_cons_zero, List.set_cons_succ]))
          generalize w6.drew = wd at HH6 ⊢
          refine ⟨?_, ?_⟩
          · skip
            have hgb := HH6.out.gbox.at' 0 _ rfl
            refine runT rfl (fun K hK => ?_)
            go_simp
            clear hgb
            refine hK.out _ _ (⟨(by have := HH6.out.wbox.at' 0 _ rfl; rwa [HWL6.out] at this), HH6.out.ptr HX6.out⟩) (fun _ => ?_)
            (try simp only [Act.put, List.setIfInBounds_toArray, List.set_cons_zero, List.set_cons_succ])
            clear hK K
            refine runT rfl (fun K hK => ?_)
            go_simp
            go_at_call 28
            refine (HH6.out.value HX6.out y HVY.out (fun _ => HTA.out)).mono ?_
            rintro r wd2 ⟨rfl, hb⟩
            (try go_wp2_with fail)
            replace HH6 := Lib.hid (HH6.out.later hb)
            clear hb
            refine hK.out _ _ (⟨(by have := HH6.out.wbox.at' 0 _ rfl; rwa [HWL6.out] at this), HH6.out.ptr HX6.out⟩) (fun _ => ?_)
            (try simp only [Act.put, List.setIfInBounds_toArray, List.set_cons_zero, List.set_cons_succ])
            clear hK K
            refine runT rfl (fun K hK => ?_)
            go_simp
            have hb := below_new (Below.refl wd2.heap.size wd2) (.cells #[.int .u64 y] 39)
            have hsr := src_list wd2 [.int .u64 y] 39 1 1 rfl (one_int _ _)
            replace HH6 := Lib.hid (HH6.out.later hb)
            have HSR := Lib.hid hsr
            clear hb hsr
            generalize wd2.alloc (.cells #[.int .u64 y] 39) = wd3 at HH6 HSR ⊢
            generalize wd2.heap.size = sb at HSR ⊢
            refine hK.out _ _ (⟨(by have := HH6.out.wbox.at' 0 _ rfl; rwa [HWL6.out] at this), HH6.out.ptr HX6.out⟩) (fun _ => ?_)
            (try simp only [Act.put, List.setIfInBounds_toArray, List.set_cons_zero, List.set_cons_succ])
            clear hK K
            refine runT rfl (fun K hK => ?_)
            refine step_append_grew rfl _ _ 56 rfl W.heap.size 39 _ 1 8 elem_u64 (.slice ga gl.length gc) gl.length (gl.map (Value.int .u64)) rfl HH6.out.grow (some ⟨sb, 0, none⟩) 1 1 [.int .u64 y] rfl HSR.out (by unfold maxLen; omega) (by omega) HH6.out.size ?_
            intro gv2 wd4 hG
            rw [show gl.map (Value.int .u64) ++ [.int .u64 y] = (gl ++ [y]).map (Value.int .u64) by rw [List.map_append]; rfl] at hG
            obtain ⟨ga2, gc2, rfl⟩ := own_shape hG.own
            have HAP := Lib.hid (HH6.out.app hG)
            have HG7 := Lib.hid hG
            clear hG HSR
            refine hK.out _ _ (⟨(by have := HAP.out.2.1.at' 0 _ rfl; rwa [HWL6.out] at this), HAP.out.2.2.at' th _ (by rw [List.getElem?_map, HX6.out]; rfl)⟩) (fun _ => ?_)
            (try simp only [Act.put, List.setIfInBounds_toArray, List.set_cons_zero, List.set_cons_succ])
            clear hK K
            have hgb := HAP.out.1.at' 0 _ rfl
            have hgf := HAP.out.1.fz 0
            refine runT rfl (fun K hK => ?_)
            go_simp
            clear hgb hgf
            have HH7 := Lib.hid (HH6.out.got HG7.out)
            clear HH6 HAP HG7
            generalize wd4.setCell ⟨gb, 0, none⟩ (.slice ga2 (gl.length + 1) gc2) = w8 at HH7 ⊢
            refine hK.out _ _ (⟨(by have := HH7.out.wbox.at' 0 _ rfl; rwa [HWL6.out] at this), HH7.out.ptr HX6.out⟩) (fun _ => ?_)
            (try simp only [Act.put, List.setIfInBounds_toArray, List.set_cons_zero, List.set_cons_succ])
            clear hK K
            refine seqT_done ?_
            have hwb := HH7.out.wbox.at' 0 _ rfl
            have hpr := HH7.out.ptr HX6.out
            have hrf := HH7.out.rbox.fz th
            rw [HWL6.out] at hwb
            have HH8 := Lib.hid (HH7.out.gone (th := th) (by have := HWL6.out; omega))
            rw [HSS.out] at HH8
            replace hpr : w8.cell? ⟨rb, th, none⟩ = some (pt x2.b) := hpr
            clear HH7
            go_wp2
            refine bodyPost_ret (results_none rfl _ _ _) rfl ?_
            exact ⟨rfl, C', L', _, gl ++ [y], fu, aq, WsN, had ++ [j], HH8.out, HGR.out, by rw [HGL.out, List.map_append, ← HY.out]; rfl, HL6.out, HON.out, fun x m hx h => .inl HXN.out, by omega, by omega, by rw [List.length_append, List.length_singleton]; omega⟩
          · skip
            refine runT rfl (fun K hK => ?_)
            go_simp
            go_at_call 28
            refine (HH6.out.value HX6.out y HVY.out (fun _ => HTA.out)).mono ?_
            rintro r wd20 ⟨rfl, hb⟩
            (try go_wp2_with fail)
            replace HH6 := Lib.hid (HH6.out.later hb)
            clear hb
            refine hK.out _ _ (⟨(by have := HH6.out.wbox.at' 0 _ rfl; rwa [HWL6.out] at this), HH6.out.ptr HX6.out⟩) (fun _ => ?_)
            (try simp only [Act.put, List.setIfInBounds_toArray, List.set_cons_zero, List.set_cons_succ])
            clear hK K
            refine ⟨?_, ?_⟩
            · skip
              have hgb := HH6.out.gbox.at' 0 _ rfl
              refine runT rfl (fun K hK => ?_)
              go_simp
              clear hgb
              refine hK.out _ _ (⟨(by have := HH6.out.wbox.at' 0 _ rfl; rwa [HWL6.out] at this), HH6.out.ptr HX6.out⟩) (fun _ => ?_)
              (try simp only [Act.put, List.setIfInBounds_toArray, List.set_cons_zero, List.set_cons_succ])
              clear hK K
              refine runT rfl (fun K hK => ?_)
              go_simp
              have hb := below_new (Below.refl wd20.heap.size wd20) (.cells #[.int .u64 y] 39)
              have hsr := src_list wd20 [.int .u64 y] 39 1 1 rfl (one_int _ _)
              replace HH6 := Lib.hid (HH6.out.later hb)
              have HSR := Lib.hid hsr
              clear hb hsr
              generalize wd20.alloc (.cells #[.int .u64 y] 39) = wd22 at HH6 HSR ⊢
              generalize wd20.heap.size = sb at HSR ⊢
              refine hK.out _ _ (⟨(by have := HH6.out.wbox.at' 0 _ rfl; rwa [HWL6.out] at this), HH6.out.ptr HX6.out⟩) (fun _ => ?_)
              (try simp only [Act.put, List.setIfInBounds_toArray, List.set_cons_zero, List.set_cons_succ])
              clear hK K
              refine runT rfl (fun K hK => ?_)
              refine step_append_grew rfl _ _ 56 rfl W.heap.size 39 _ 1 8 elem_u64 (.slice ga gl.length gc) gl.length (gl.map (Value.int .u64)) rfl HH6.out.grow (some ⟨sb, 0, none⟩) 1 1 [.int .u64 y] rfl HSR.out (by unfold maxLen; omega) (by omega) HH6.out.size ?_
              intro gv2 wd23 hG
              rw [show gl.map (Value.int .u64) ++ [.int .u64 y] = (gl ++ [y]).map (Value.int .u64) by rw [List.map_append]; rfl] at hG
              obtain ⟨ga2, gc2, rfl⟩ := own_shape hG.own
              have HAP := Lib.hid (HH6.out.app hG)
              have HG7 := Lib.hid hG
              clear hG HSR
              refine hK.out _ _ (⟨(by have := HAP.out.2.1.at' 0 _ rfl; rwa [HWL6.out] at this), HAP.out.2.2.at' th _ (by rw [List.getElem?_map, HX6.out]; rfl)⟩) (fun _ => ?_)
              (try simp only [Act.put, List.setIfInBounds_toArray, List.set_cons_zero, List.set_cons_succ])
              clear hK K
              have hgb := HAP.out.1.at' 0 _ rfl
              have hgf := HAP.out.1.fz 0
              refine runT rfl (fun K hK => ?_)
              go_simp
              clear hgb hgf
              have HH7 := Lib.hid (HH6.out.got HG7.out)
              clear HH6 HAP HG7
              generalize wd23.setCell ⟨gb, 0, none⟩ (.slice ga2 (gl.length + 1) gc2) = w8 at HH7 ⊢
              refine hK.out _ _ (⟨(by have := HH7.out.wbox.at' 0 _ rfl; rwa [HWL6.out] at this), HH7.out.ptr HX6.out⟩) (fun _ => ?_)
              (try simp only [Act.put, List.setIfInBounds_toArray, List.set_cons_zero, List.set_cons_succ])
              clear hK K
              refine seqT_done ?_
              have hwb := HH7.out.wbox.at' 0 _ rfl
              have hpr := HH7.out.ptr HX6.out
              have hrf := HH7.out.rbox.fz th
              rw [HWL6.out] at hwb
              have HH8 := Lib.hid (HH7.out.gone (th := th) (by have := HWL6.out; omega))
              rw [HSS.out] at HH8
              replace hpr : w8.cell? ⟨rb, th, none⟩ = some (pt x2.b) := hpr
              clear HH7
              go_wp2
              refine bodyPost_ret (results_none rfl _ _ _) rfl ?_
              exact ⟨rfl, C', L', _, gl ++ [y], fu, aq, WsN, had ++ [j], HH8.out, HGR.out, by rw [HGL.out, List.map_append, ← HY.out]; rfl, HL6.out, HON.out, fun x m hx h => .inl HXN.out, by omega, by omega, by rw [List.length_append, List.length_singleton]; omega⟩
            · skip
              refine runT rfl (fun K hK => ?_)
              go_simp
              have hb := below_new (Below.refl wd20.heap.size wd20) (.cells #[.int .u64 y] 39)
              have hsr := src_list wd20 [.int .u64 y] 39 1 1 rfl (one_int _ _)
              replace HH6 := Lib.hid (HH6.out.later hb)
              have HSR := Lib.hid hsr
              clear hb hsr
              generalize wd20.alloc (.cells #[.int .u64 y] 39) = wd40 at HH6 HSR ⊢
              generalize wd20.heap.size = sb at HSR ⊢
              refine hK.out _ _ (⟨(by have := HH6.out.wbox.at' 0 _ rfl; rwa [HWL6.out] at this), HH6.out.ptr HX6.out⟩) (fun _ => ?_)
              (try simp only [Act.put, List.setIfInBounds_toArray, List.set_cons_zero, List.set_cons_succ])
              clear hK K
              have hgb := HH6.out.gbox.at' 0 _ rfl
              refine runT rfl (fun K hK => ?_)
              go_simp
              clear hgb
              refine hK.out _ _ (⟨(by have := HH6.out.wbox.at' 0 _ rfl; rwa [HWL6.out] at this), HH6.out.ptr HX6.out⟩) (fun _ => ?_)
              (try simp only [Act.put, List.setIfInBounds_toArray, List.set_cons_zero, List.set_cons_succ])
              clear hK K
              refine runT rfl (fun K hK => ?_)
              refine step_append_grew rfl _ _ 56 rfl W.heap.size 39 _ 1 8 elem_u64 (.slice ga gl.length gc) gl.length (gl.map (Value.int .u64)) rfl HH6.out.grow (some ⟨sb, 0, none⟩) 1 1 [.int .u64 y] rfl HSR.out (by unfold maxLen; omega) (by omega) HH6.out.size ?_
              intro gv2 wd42 hG
              rw [show gl.map (Value.int .u64) ++ [.int .u64 y] = (gl ++ [y]).map (Value.int .u64) by rw [List.map_append]; rfl] at hG
              obtain ⟨ga2, gc2, rfl⟩ := own_shape hG.own
              have HAP := Lib.hid (HH6.out.app hG)
              have HG7 := Lib.hid hG
              clear hG HSR
              refine hK.out _ _ (⟨(by have := HAP.out.2.1.at' 0 _ rfl; rwa [HWL6.out] at this), HAP.out.2.2.at' th _ (by rw [List.getElem?_map, HX6.out]; rfl)⟩) (fun _ => ?_)
              (try simp only [Act.put, List.setIfInBounds_toArray, List.set_cons_zero, List.set_cons_succ])
              clear hK K
              have hgb := HAP.out.1.at' 0 _ rfl
              have hgf := HAP.out.1.fz 0
              refine runT rfl (fun K hK => ?_)
              go_simp
              clear hgb hgf
              have HH7 := Lib.hid (HH6.out.got HG7.out)
              clear HH6 HAP HG7
              generalize wd42.setCell ⟨gb, 0, none⟩ (.slice ga2 (gl.length + 1) gc2) = w8 at HH7 ⊢
              refine hK.out _ _ (⟨(by have := HH7.out.wbox.at' 0 _ rfl; rwa [HWL6.out] at this), HH7.out.ptr HX6.out⟩) (fun _ => ?_)
              (try simp only [Act.put, List.setIfInBounds_toArray, List.set_cons_zero, List.set_cons_succ])
              clear hK K
              refine seqT_done ?_
              have hwb := HH7.out.wbox.at' 0 _ rfl
              have hpr := HH7.out.ptr HX6.out
              have hrf := HH7.out.rbox.fz th
              rw [HWL6.out] at hwb
              have HH8 := Lib.hid (HH7.out.gone (th := th) (by have := HWL6.out; omega))
              rw [HSS.out] at HH8
              replace hpr : w8.cell? ⟨rb, th, none⟩ = some (pt x2.b) := hpr
              clear HH7
              go_wp2
              refine bodyPost_ret (results_none rfl _ _ _) rfl ?_
              exact ⟨rfl, C', L', _, gl ++ [y], fu, aq, WsN, had ++ [j], HH8.out, HGR.out, by rw [HGL.out, List.map_append, ← HY.out]; rfl, HL6.out, HON.out, fun x m hx h => .inl HXN.out, by omega, by omega, by rw [List.length_append, List.length_singleton]; omega⟩
      · rw [hph]
        have HGR := Lib.hid hGR
        clear hGR hph
        as_aux_lemma =>
          have hfb := HH6.out.fbox.at' 0 _ rfl
          have hff := HH6.out.fbox.fz 0
          have hfu : fu < 6000 := by omega
          go_upto_region 10 with fail
          clear hfb hff
          have HH7 := Lib.hid (HH6.out.setFull (fu + 1))
          rw [show (i64 ((fu + 1 : Nat) : Int)) = .int .i64 ((fu : Int) + 1) by rw [Int.natCast_add]; rfl] at HH7
          clear HH6
          generalize w6.setCell ⟨fb, 0, none⟩ (.int .i64 ((fu : Int) + 1)) = w7 at HH7 ⊢
          have hwb := HH7.out.wbox.at' 0 _ rfl
          have hpr := HH7.out.ptr HX6.out
          have hrf := HH7.out.rbox.fz th
          rw [HWL6.out] at hwb
          have HH8 := Lib.hid (HH7.out.gone (th := th) (by have := HWL6.out; omega))
          rw [HSS.out] at HH8
          replace hpr : w7.cell? ⟨rb, th, none⟩ = some (pt x2.b) := hpr
          clear HH7
          go_wp2
          refine bodyPost_ret (results_none rfl _ _ _) rfl ?_
          exact ⟨rfl, C', L', gv, gl, fu + 1, aq, WsN, had, HH8.out, HGR.out, HGL.out, HL6.out, HON.out, fun x m hx h => .inl HXN.out, by omega, by omega, by omega⟩

end Go.Proofs.Yticphioeipbnmaa
