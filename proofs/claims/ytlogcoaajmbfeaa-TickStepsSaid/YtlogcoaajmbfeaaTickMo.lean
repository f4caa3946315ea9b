/-
  The contracts of Model.Step and of Touched of package stackyardlaw05: the law's own record goes as a step of a stamp does. No condition but that numbers fit their kinds.
-/
import Derived.Test.YtlogcoaajmbfeaaTickMoA
import Derived.Test.YtlogcoaajmbfeaaTickMoB
import Derived.Test.YtlogcoaajmbfeaaTickMoC
import Derived.Test.YtlogcoaajmbfeaaTickMoD
import Derived.Test.YtlogcoaajmbfeaaTickMoE
import Derived.Test.YtlogcoaajmbfeaaTickMoF
import Derived.Test.YtlogcoaajmbfeaaTickMoG
import Derived.Test.YtlogcoaajmbfeaaTickMoH
import Derived.Test.YtlogcoaajmbfeaaTickMoI
import Derived.Test.YtlogcoaajmbfeaaTickMoJ
import Derived.Test.YtlogcoaajmbfeaaMemSame
namespace Go.Proofs.Ytlogcoaajmbfeaa
open Go.RowKit
set_option linter.unusedVariables false

/-- The law's record is what the stamp is. -/
structure Sync (k : Tk) (q : Mo) : Prop where
  ht : q.t = k.t
  hs : q.s = k.s
  hso : q.so = k.so
  hd : q.d = k.d
  hw : q.who = k.who
  hp : q.ph = k.ph
  hx : q.x = k.lo
  hy : q.y = k.hi
  hg : k.ph = 0 → q.n = k.steps ∧ (k.so ≠ 0 → k.so ≠ 3 → q.a = k.seen) ∧ k.lo = 0 ∧ k.hi = 0 ∧ (k.so = 3 → k.steps = 0) ∧ (k.so = 4 → k.steps ≤ k.d + 1)

/-- The record's cell is the one that was touched. -/
def EvOf (q : Mo) : Option Ev → Prop
  | none => q.cell = -1
  | some e => q.cell = e.cell ∧ q.op = e.op ∧ q.new = e.new

theorem sync_mk {nb : Nat} {k : Tk} {C : List Int} {now : Int} {q q' : Mo} (hS : Sync k q) (hq : q'.t = q.t ∧ q'.s = q.s ∧ q'.so = q.so ∧ q'.d = q.d ∧ q'.who = q.who) {k' : Tk} {C' : List Int} {oe : Option Ev} (h : stp nb k C now = (k', C', oe))
    (hp : q'.ph = k'.ph) (hx : q'.x = k'.lo) (hy : q'.y = k'.hi) (hg : k'.ph = 0 → q'.n = k'.steps ∧ (k.so ≠ 0 → k.so ≠ 3 → q'.a = k'.seen) ∧ k'.lo = 0 ∧ k'.hi = 0 ∧ (k.so = 3 → k'.steps = 0) ∧ (k.so = 4 → k'.steps ≤ k.d + 1)) (he : EvOf q' oe) :
    Sync (stp nb k C now).1 q' ∧ EvOf q' (stp nb k C now).2.2 := by
  obtain ⟨e1, e2, e3, e4, e5, e6⟩ := stp_same nb k C now
  obtain ⟨q1, q2, q3, q4, q5⟩ := hq
  have hk : (stp nb k C now).1 = k' := by rw [h]
  refine ⟨⟨q1.trans (hS.ht.trans e1.symm), q2.trans (hS.hs.trans e2.symm), q3.trans (hS.hso.trans e3.symm), q4.trans (hS.hd.trans e4.symm), q5.trans (hS.hw.trans e5.symm), by rw [hk]; exact hp, by rw [hk]; exact hx, by rw [hk]; exact hy, ?_⟩, by rw [h]; exact he⟩
  rw [e3, e4, hk]
  exact hg

theorem made_fin (k : Tk) (x y : Int) (h0 : k.lo = 0) (h1 : k.hi = 0) (W : World) : Calls Try.prog 34 #[i64 x, i64 y] W fun r w' => r = .returned (.tuple #[st (fin k x y).lo (fin k x y).hi, i64 (fin k x y).ph]) ∧ Below W.heap.size W w' := by
  refine (made_any x y W).mono fun r w' ⟨h, hb⟩ => ⟨?_, hb⟩
  rw [h]
  unfold madeV fin
  split
  · rfl
  · show _ = Ending.returned (.tuple #[st k.lo k.hi, i64 2])
    rw [h0, h1]

def MoPost2 (base : Nat) (w : World) (q p c : Nat) (v : Value) (C : List Int) (L : List Ev) (k' : Tk) (oe : Option Ev) (r : Ending) (w' : World) : Prop :=
  r = .returned (.tuple #[]) ∧ ∃ m' : Mo, MoS base w w' q p c v C L m' ∧ Sync k' m' ∧ EvOf m' oe

theorem fin_ge (k : Tk) (x y : Int) : (fin k x y).ph ≠ 0 := by have := (fin_same k x y).2.2.2.2.2.2.2.1; omega

section
variable (base : Nat) (w : World) (q p c : Nat) (v : Value) (C : List Int) (L : List Ev) (k : Tk) (m : Mo) (nb : Nat) (n : Int)

theorem mo_any (now : Int) (hS : Sync k m) (hp : k.ph = 0) (hk : k.Ok nb n C) (hK : IsMo w q m) (hM : IsMem base w p c v C L) (ha : ¬ Foot p c v q) (hb : base ≤ w.heap.size) :
    Calls Try.prog 18 #[pt q, pt p, i64 now] w (MoPost2 base w q p c v C L (stp nb k C now).1 (stp nb k C now).2.2) := by
  obtain ⟨hl, hnt, hlen, w0, w1, s0, s1, e0, e1, o0, o1, d0, d1, p0, p1, h2⟩ := hk
  have ht1 := hl.t1
  obtain ⟨ht, hs, hso, hd, hw, hph, hx, hy, hg⟩ := id hS
  obtain ⟨gn, ga, glo, ghi, g3, g4⟩ := hg hp
  have hz : C[nb]? = some (C.getD nb 0) := getD_at (by omega)
  have hl' : Lay m.t m.s n := by rw [ht, hs]; exact hl
  have hnt' : (nb : Int) = 2 * n + m.t := by rw [ht]; exact hnt
  have hm0 : 0 ≤ m.n := by omega
  have hm1 : m.n ≤ 1000000 := by omega
  have hT : ∀ m' : Mo, m' = m → m'.t = m.t ∧ m'.s = m.s ∧ m'.so = m.so ∧ m'.d = m.d ∧ m'.who = m.who := fun m' h => by rw [h]; exact ⟨rfl, rfl, rfl, rfl, rfl⟩
  rcases (by omega : k.so = 0 ∨ k.so = 1 ∨ k.so = 2 ∨ k.so = 3 ∨ k.so = 4) with h | h | h | h | h
  · refine (mo_count base w q p c v C L m nb n now _ (hso.trans h) _ _ _ (made_fin { k with steps := k.steps + 1 } _ _ glo ghi) hm0 hm1 hK hM ha hb hl' hnt' hz).mono ?_
    rintro r w' ⟨hr, hms⟩
    exact ⟨hr, _, hms, sync_mk hS ⟨rfl, rfl, rfl, rfl, rfl⟩ (stp_c0 hp h) rfl rfl rfl (fun h => absurd h (fin_ge _ _ _)) ⟨rfl, rfl, rfl⟩⟩
  · have hga := ga (by omega) (by omega)
    by_cases hlt : k.steps < k.t
    · have hj : m.n = ((k.steps.toNat : Nat) : Int) := by omega
      refine (mo_load base w q p c v C L m nb n now _ (hso.trans h) k.steps.toNat _ hj (by omega) (getD_at (by omega)) hm0 hm1 hK hM ha hb hl' hnt' hz).mono ?_
      rintro r w' ⟨hr, hms⟩
      exact ⟨hr, _, hms, sync_mk hS ⟨rfl, rfl, rfl, rfl, rfl⟩ (stp_c1l hp h hlt) hph hx hy (fun _ => ⟨by show m.n + 1 = k.steps + 1; omega, fun _ _ => by show max m.a _ = max k.seen _; rw [hga], glo, ghi, fun h => by omega, fun h => by omega⟩) ⟨rfl, rfl, rfl⟩⟩
    · by_cases hf : k.seen + 1 < 16777215
      · have hj : m.who = ((k.who.toNat : Nat) : Int) := by omega
        have hmd := fun W => made_any (m.a + 1) (m.a + 1) W
        have hv : madeV (m.a + 1) (m.a + 1) = .tuple #[st (k.seen + 1) (k.seen + 1), i64 1] := by rw [hga]; exact if_pos (by omega)
        rw [hv] at hmd
        refine (mo_done base w q p c v C L m nb n now _ (hso.trans h) (by omega) (by omega) (by omega) k.who.toNat hj (by omega) _ _ hmd hm0 hm1 hK hM ha hb hl' hnt' hz).mono ?_
        rintro r w' ⟨hr, hms⟩
        exact ⟨hr, _, hms, sync_mk hS ⟨rfl, rfl, rfl, rfl, rfl⟩ (stp_c1d hp h hlt hf) rfl rfl rfl (fun h => absurd h (by show ¬ (1 : Int) = 0; decide)) ⟨rfl, rfl, by show m.a + 1 = k.seen + 1; omega⟩⟩
      · have hmd := fun W => made_any (m.a + 1) (m.a + 1) W
        have hv : madeV (m.a + 1) (m.a + 1) = .tuple #[st 0 0, i64 2] := if_neg (by omega)
        rw [hv] at hmd
        refine (mo_full base w q p c v C L m nb n now _ (hso.trans h) (by omega) (by omega) (by omega) _ _ hmd hm0 hm1 hK hM ha hb hl' hnt' hz).mono ?_
        rintro r w' ⟨hr, hms⟩
        exact ⟨hr, _, hms, sync_mk hS ⟨rfl, rfl, rfl, rfl, rfl⟩ (stp_c1f hp h hlt hf) rfl glo.symm ghi.symm (fun h => absurd h (by show ¬ (2 : Int) = 0; decide)) rfl⟩
  · have hga := ga (by omega) (by omega)
    by_cases h0 : k.steps = 0
    · by_cases hf : low (C.getD nb 0) = 16777215
      · refine (mo_swap0f base w q p c v C L m nb n now _ (hso.trans h) (by omega) hf hm0 hm1 hK hM ha hb hl' hnt' hz).mono ?_
        rintro r w' ⟨hr, hms⟩
        have hst := stp_c20 (nb := nb) (C := C) (now := now) hp h h0
        rw [if_pos hf] at hst
        exact ⟨hr, _, hms, sync_mk hS ⟨rfl, rfl, rfl, rfl, rfl⟩ hst rfl hx hy (fun h => absurd h (by show ¬ (2 : Int) = 0; decide)) ⟨rfl, rfl, rfl⟩⟩
      · refine (mo_swap0 base w q p c v C L m nb n now _ (hso.trans h) (by omega) hf hm0 hm1 hK hM ha hb hl' hnt' hz).mono ?_
        rintro r w' ⟨hr, hms⟩
        have hst := stp_c20 (nb := nb) (C := C) (now := now) hp h h0
        rw [if_neg hf] at hst
        exact ⟨hr, _, hms, sync_mk hS ⟨rfl, rfl, rfl, rfl, rfl⟩ hst (hph.trans hp) hx hy (fun _ => ⟨by show m.n + 1 = k.steps + 1; omega, fun _ _ => rfl, glo, ghi, fun h => by omega, fun h => by omega⟩) ⟨rfl, rfl, rfl⟩⟩
    · by_cases h1 : k.steps = 1
      · by_cases hxx : low (C.getD nb 0) = k.seen
        · refine (mo_swap1s base w q p c v C L m nb n now _ (hso.trans h) (by omega) (by omega) hm0 hm1 hK hM ha hb hl' hnt' hz).mono ?_
          rintro r w' ⟨hr, hms⟩
          exact ⟨hr, _, hms, sync_mk hS ⟨rfl, rfl, rfl, rfl, rfl⟩ (stp_c21s hp h h1 hxx) hph hx hy (fun _ => ⟨by show m.n + 1 = k.steps + 1; omega, fun _ _ => hga, glo, ghi, fun h => by omega, fun h => by omega⟩) ⟨rfl, rfl, rfl⟩⟩
        · refine (mo_swap1d base w q p c v C L m nb n now _ (hso.trans h) (by omega) (by omega) _ _ _ (by rw [hga]; exact made_fin { k with steps := k.steps + 1 } _ _ glo ghi) hm0 hm1 hK hM ha hb hl' hnt' hz).mono ?_
          rintro r w' ⟨hr, hms⟩
          exact ⟨hr, _, hms, sync_mk hS ⟨rfl, rfl, rfl, rfl, rfl⟩ (stp_c21d hp h h1 hxx) rfl rfl rfl (fun h => absurd h (fin_ge _ _ _)) ⟨rfl, rfl, rfl⟩⟩
      · have hs7 := h2 h (by omega) hp
        by_cases h3 : k.steps = 2
        · by_cases hxx : C.getD nb 0 = k.seen
          · refine (mo_swap2y base w q p c v C L m nb n now _ (hso.trans h) (by omega) (by omega) (by omega) (by omega) _ _ _ (by rw [hga]; exact made_fin { k with steps := k.steps + 1 } _ _ glo ghi) hm0 hm1 hK hM ha hb hl' hnt' hz).mono ?_
            rintro r w' ⟨hr, hms⟩
            exact ⟨hr, _, hms, sync_mk hS ⟨rfl, rfl, rfl, rfl, rfl⟩ (stp_c22y hp h h3 hxx) rfl rfl rfl (fun h => absurd h (fin_ge _ _ _)) ⟨rfl, rfl, by show m.a + 1 = k.seen + 1; omega⟩⟩
          · refine (mo_swap2n base w q p c v C L m nb n now _ (hso.trans h) (by omega) (by omega) (by omega) (by omega) hm0 hm1 hK hM ha hb hl' hnt' hz).mono ?_
            rintro r w' ⟨hr, hms⟩
            exact ⟨hr, _, hms, sync_mk hS ⟨rfl, rfl, rfl, rfl, rfl⟩ (stp_c22n hp h h3 hxx) hph hx hy (fun _ => ⟨by show m.n + 1 = k.steps + 1; omega, fun _ _ => hga, glo, ghi, fun h => by omega, fun h => by omega⟩) ⟨rfl, rfl, rfl⟩⟩
        · refine (mo_swap3 base w q p c v C L m nb n now _ (hso.trans h) (by omega) _ _ _ (by rw [hga]; exact made_fin { k with steps := k.steps + 1 } _ _ glo ghi) hm0 hm1 hK hM ha hb hl' hnt' hz).mono ?_
          rintro r w' ⟨hr, hms⟩
          exact ⟨hr, _, hms, sync_mk hS ⟨rfl, rfl, rfl, rfl, rfl⟩ (stp_c23 hp h (by omega)) rfl rfl rfl (fun h => absurd h (fin_ge _ _ _)) ⟨rfl, rfl, rfl⟩⟩
  · have h0 := g3 h
    have hst := stp_c3 (nb := nb) (C := C) (now := now) hp (.inl h)
    rw [if_pos h0] at hst
    refine (mo_clock base w q p c v C L m nb n now _ (hso.trans h) _ _ _ (made_fin { k with steps := k.steps + 1, seen := low now } _ _ glo ghi) hm0 hm1 hK hM ha hb hl' hnt' hz).mono ?_
    rintro r w' ⟨hr, hms⟩
    exact ⟨hr, _, hms, sync_mk hS ⟨rfl, rfl, rfl, rfl, rfl⟩ hst rfl rfl rfl (fun h => absurd h (fin_ge _ _ _)) rfl⟩
  · have hga := ga (by omega) (by omega)
    have hdd := g4 h
    by_cases h0 : k.steps = 0
    · have hst := stp_c4 (nb := nb) (C := C) (now := now) hp h (by omega)
      rw [if_pos h0] at hst
      refine (mo_wide0 base w q p c v C L m nb n now _ (hso.trans h) (by omega) (by omega) (by omega) hm0 hm1 hK hM ha hb hl' hnt' hz).mono ?_
      rintro r w' ⟨hr, hms⟩
      exact ⟨hr, _, hms, sync_mk hS ⟨rfl, rfl, rfl, rfl, rfl⟩ hst hph hx hy (fun _ => ⟨by show m.n + 1 = k.steps + 1; omega, fun _ _ => rfl, glo, ghi, fun h => by omega, fun h => by show k.steps + 1 ≤ k.d + 1; omega⟩) rfl⟩
    · by_cases hdn : k.d < k.steps
      · have hst := stp_c3 (nb := nb) (C := C) (now := now) hp (.inr ⟨h, hdn⟩)
        rw [if_neg h0] at hst
        refine (mo_widef base w q p c v C L m nb n now _ (hso.trans h) (by omega) (by omega) _ _ _ (by rw [hga]; exact made_fin { k with steps := k.steps + 1, seen := k.seen } _ _ glo ghi) (by omega) (by omega) hm0 hm1 hK hM ha hb hl' hnt' hz).mono ?_
        rintro r w' ⟨hr, hms⟩
        exact ⟨hr, _, hms, sync_mk hS ⟨rfl, rfl, rfl, rfl, rfl⟩ hst rfl rfl rfl (fun h => absurd h (fin_ge _ _ _)) rfl⟩
      · have hst := stp_c4 (nb := nb) (C := C) (now := now) hp h (by omega)
        rw [if_neg h0] at hst
        refine (mo_wide1 base w q p c v C L m nb n now _ (hso.trans h) (by omega) (by omega) (by omega) (by omega) hm0 hm1 hK hM ha hb hl' hnt' hz).mono ?_
        rintro r w' ⟨hr, hms⟩
        exact ⟨hr, _, hms, sync_mk hS ⟨rfl, rfl, rfl, rfl, rfl⟩ hst hph hx hy (fun _ => ⟨by show m.n + 1 = k.steps + 1; omega, fun _ _ => hga, glo, ghi, fun h => by omega, fun h => by show k.steps + 1 ≤ k.d + 1; omega⟩) rfl⟩
end

end Go.Proofs.Ytlogcoaajmbfeaa
