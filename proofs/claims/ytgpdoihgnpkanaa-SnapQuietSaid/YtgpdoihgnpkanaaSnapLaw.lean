/-
  What the laws on snaps have in common: what the call holds, the document's example, turns as they came in. No condition.
-/
import Derived.Test.YtgpdoihgnpkanaaSnapPure
import Derived.Test.YtgpdoihgnpkanaaWalkTickMost
namespace Go.Proofs.Ytgpdoihgnpkanaa
open Go.RowKit
set_option linter.unusedVariables false

/-- Cells, a snap, and what else the call holds. -/
def SnapHold (W w : World) (p c : Nat) (v : Value) (C : List Int) (L : List Ev) (b g : Nat) (k : Sn) (R : List Thing) : Prop :=
  Hold W w (tMem W.heap.size p c v C L :: tSn W.heap.size b g k :: R)

section
variable {W w w' : World} {p c b g : Nat} {v v' : Value} {C C' : List Int} {L L' : List Ev} {k k' : Sn} {R : List Thing}
theorem SnapHold.mem (h : SnapHold W w p c v C L b g k R) : IsMem W.heap.size w p c v C L := Hold.has h 0 _ rfl
theorem SnapHold.sn (h : SnapHold W w p c v C L b g k R) : IsSn W.heap.size w b g k := Hold.has h 1 _ rfl
theorem SnapHold.later (h : SnapHold W w p c v C L b g k R) (e : Below w.heap.size w w') : SnapHold W w' p c v C L b g k R := Hold.later h e
theorem SnapHold.drew (h : SnapHold W w p c v C L b g k R) : SnapHold W w.drew p c v C L b g k R := Hold.drew h
theorem SnapHold.size (h : SnapHold W w p c v C L b g k R) : W.heap.size ≤ w.heap.size := Hold.size h
theorem SnapHold.below (h : SnapHold W w p c v C L b g k R) : Below W.heap.size W w := Hold.below h
theorem SnapHold.store (h : SnapHold W w p c v C L b g k R) (t : Touched W.heap.size w w' p c v v' C' L') : SnapHold W w' p c v' C' L' b g k R := Hold.mem h 0 rfl t
theorem SnapHold.does (h : SnapHold W w p c v C L b g k R) (d : Does (fun i => i = b ∨ i = g) W.heap.size w w' p c v v' C' L') (hk : IsSn W.heap.size w' b g k') : SnapHold W w' p c v' C' L' b g k' R :=
  Hold.does h 0 1 (by decide) rfl rfl d (tSn_ok _ _ _ _) hk (fun q hq => hq)
/-- A step. -/
theorem SnapHold.call {n : Int} (h : SnapHold W w p c v C L b g k R) (hk : k.Ok n C) (hL : L.length < 1000000000) :
    Calls Try.prog 37 #[pt b, pt p] w fun r w' => r = .returned (i64 (k.step C).ph) ∧ ∃ v', SnapHold W w' p c v' C (L ++ k.ev C) b g (k.step C) R :=
  (snstep_any W.heap.size w b g p c v C L k n hk h.sn h.mem (fun i hi => Hold.free h 0 1 (by decide) rfl rfl i hi) h.size hL).mono fun r w' ⟨hr, v', hd, hs⟩ => ⟨hr, v', h.does hd hs⟩
theorem SnapHold.begun {w1 : World} {n : Nat} (hB : Below W.heap.size W w) (hM : IsMem W.heap.size w' p c (.slice none 0 0) (List.replicate n 0) []) (e : Below w.heap.size w w') (hp : w.heap.size ≤ p) (hc : w.heap.size ≤ c)
    (e1 : Below w'.heap.size w' w1) (hk : IsSn W.heap.size w1 b g k) (hb : w'.heap.size ≤ b) (hg : w'.heap.size ≤ g) : SnapHold W w1 p c (.slice none 0 0) (List.replicate n 0) [] b g k [] :=
  have h0 : Hold W w' ([] ++ [tMem W.heap.size p c (.slice none 0 0) (List.replicate n 0) []]) := (Hold.nil hB).more e (tMem_ok _ _ _ _ _ _) hM (fun q hq => by
    rcases hq with rfl | rfl | hq
    · exact hp
    · exact hc
    · cases hq)
  Hold.more h0 e1 (tSn_ok _ _ _ _) hk (fun q hq => by
    rcases hq with rfl | rfl
    · exact hb
    · exact hg)
/-- Something new. -/
theorem SnapHold.more {A : Thing} (h : SnapHold W w p c v C L b g k R) (e : Below w.heap.size w w') (ok : A.Ok W.heap.size) (hP : A.P w') (hF : ∀ q, A.F q → w.heap.size ≤ q) : SnapHold W w' p c v C L b g k (R ++ [A]) :=
  Hold.more h e ok hP hF
end

theorem Sn.ev_le (k : Sn) (C : List Int) : (k.ev C).length ≤ 1 := by
  unfold Sn.ev
  split <;> simp

section
variable {k : Sn} {C : List Int} {N st i B : Nat} {last : Int}
theorem Snap.cases (h : Snap k C N st i B last) : (k.ph = 0 ∧ i < (B + 2) * N) ∨ (k.ph = 1 ∧ ∃ P, i = P * N ∧ k.passes = (P : Int) ∧ 2 ≤ P ∧ P ≤ B + 2 ∧ (last < (P : Int) - 1 → ∀ j, j < N → k.X.getD j 0 = C.getD j 0)) := by
  rcases h with ⟨P, r, hi, h⟩ | ⟨P, hi, h⟩
  · have h1 := Nat.mul_le_mul_right N h.c3
    have h2 := h.at'.r1
    refine .inl ⟨h.ph, ?_⟩
    rw [Nat.add_mul] at h1 ⊢
    omega
  · exact .inr ⟨h.ph, P, hi, h.at'.passes, h.p, h.b, h.x⟩
theorem Snap.X (h : Snap k C N st i B last) : k.X.length = N ∧ k.N = N := by
  rcases h with ⟨P, r, hi, h⟩ | ⟨P, hi, h⟩
  · exact ⟨h.at'.X, h.at'.hN⟩
  · exact ⟨h.at'.X, h.at'.hN⟩
theorem Snap.ok {t s n : Int} {k0 : Sn} (h : Snap k C N st i B last) (hs : SnSame k0 k) (ht : k0.t = t) (hs' : k0.s = s) (hl : Lay t s n) (hN : (N : Int) = n) (hlen : (C.length : Int) = 2 * n + 2 * t) (hi : i ≤ 1000000) : k.Ok n C := by
  have e1 : k.t = t := hs.1.trans ht
  have e2 : k.s = s := hs.2.1.trans hs'
  have hn := hl.n1
  have ht := hl.t1
  have hP : ∀ P r, i = P * N + r → P ≤ 1000000 := fun P r e => by
    have := Nat.mul_le_mul_left P (show 1 ≤ N by omega)
    omega
  rw [← e1, ← e2] at hl
  rw [← e1] at hlen
  rcases h with ⟨P, r, hi, h⟩ | ⟨P, hi, h⟩
  · exact h.at'.ok hl hN hlen (hP P r hi)
  · exact h.at'.ok hl hN hlen (hP P 0 hi)
theorem Snap.start (t s so d who : Int) (C : List Int) (N st B : Nat) (hs : st < N) : Snap (sn0 t s so d who st N) C N st 0 B (-1) :=
  .inl ⟨0, 0, by omega, QInv.start t s so d who C N st B hs⟩
theorem Snap.store (h : Snap k C N st i B last) (hp : k.ph = 0) (C' : List Int) : Snap k C' N st i (if last = ((i / N : Nat) : Int) then B else B + 2) ((i / N : Nat) : Int) := by
  rcases h with ⟨P, r, hi, h⟩ | ⟨P, hi, h⟩
  · have e : i / N = P := by
      rw [hi, Nat.add_comm, Nat.add_mul_div_right _ _ (by have := h.at'.r1; omega), Nat.div_eq_of_lt h.at'.r1, Nat.zero_add]
    rw [e]
    exact .inl ⟨P, r, hi, h.store C'⟩
  · have := h.ph
    omega
end

theorem lay22 : Lay 2 2 4 := ⟨rfl, by omega, by omega, by omega, by omega, by omega, by omega, by omega⟩

set_option maxHeartbeats 2000000 in
theorem head7_any (w : World) : Calls Try.prog 33 #[] w fun r w' => r = .returned (.bool true) ∧ Below w.heap.size w w' := by
  have hA := AtC.made w 2 2 0 0
  have hB0 : Below w.heap.size w (w.alloc (.cells #[.int .i64 2, .int .i64 2, .int .i64 0, .int .i64 0] 27)) := below_new (Below.refl _ _) _
  have hs0 : w.heap.size + 1 = (w.alloc (.cells #[.int .i64 2, .int .i64 2, .int .i64 0, .int .i64 0] 27)).heap.size := by simp
  have HA := Lib.hid hA
  have HB0 := Lib.hid hB0
  have Hs0 := Lib.hid hs0
  clear hA hB0 hs0
  go_enter Try.func33, Try.ntmps33
  go_wp2_with fail
  generalize hW : w.alloc (.cells #[.int .i64 2, .int .i64 2, .int .i64 0, .int .i64 0] 27) = W at HA HB0 Hs0 ⊢
  clear hW
  refine (ccells_any 2 2 0 0 4 _ lay22).mono ?_
  rintro r w1 ⟨rfl, hb1⟩
  go_wp2_with fail
  refine (new_nat W.heap.size 12 12 _ hb1.size (by decide) (.inl rfl)).mono ?_
  rintro r w2 ⟨p, c, rfl, hM2, hb2, hp, hc⟩
  have hb12 := below_step' hb1 hb2 hb1.size
  obtain ⟨q0, q1, q2, q3⟩ := HA.out.later hb12 (by have := Hs0.out; omega)
  go_wp2_with fail
  refine (snnew_any W.heap.size _ 2 2 0 0 0 3 4 4 lay22 rfl (Nat.le_trans hb1.size hb2.size)).mono ?_
  rintro r w3 ⟨b, g, rfl, hS3, hb3, hbb, hbg⟩
  rw [show IntKind.u64.wrap 3 % ((4 : Nat) : Int) = ((3 : Nat) : Int) from rfl] at hS3
  have hH := SnapHold.begun hb1 hM2 hb2 hp hc hb3 hS3 hbb hbg
  have HH := Lib.hid hH
  have HN0 := Lib.hid (Snap.start 2 2 0 0 0 (List.replicate 12 0) 4 3 0 (by decide))
  have HE0 : Hid (SnSame (sn0 2 2 0 0 0 3 4) (sn0 2 2 0 0 0 3 4)) := ⟨rfl, rfl, rfl, rfl, rfl⟩
  clear hH hS3 hb3 hbb hbg hM2 hb2 hp hc hb1 hb12 q0 q1 q2 q3
  go_wp2_with fail
  go_loopw [4] (fun i wr => ∃ (n : Nat) (v : Value) (L : List Ev) (k : Sn), n ≤ 8 ∧ i = .int .i64 n ∧ Hid (SnapHold W wr p c v (List.replicate 12 0) L b g k []) ∧ Hid (Snap k (List.replicate 12 0) 4 3 n 0 (-1)) ∧ Hid (SnSame (sn0 2 2 0 0 0 3 4) k) ∧ Hid (L.length ≤ n)) (fun i _ => 100 - (intOf i).toNat)
  case atStart => exact ⟨0, _, _, _, by omega, rfl, HH, HN0, HE0, Nat.le_refl _⟩
  case round =>
    clear HH HN0 HE0
    obtain ⟨n, v, L, k, hn, rfl, HH, HN, HE, HL⟩ := hrel
    rcases HN.out.cases with ⟨hp, hlt⟩ | ⟨hp, P, hP, hpa, hP2, hP3, hx⟩
    · have hok := HN.out.ok HE.out rfl rfl lay22 rfl rfl (by omega)
      have HST := Lib.hid (HH.out.call hok (by have := HL.out; omega))
      have HN2 := Lib.hid (HN.out.step hp)
      have HE2 := Lib.hid (HE.out.trans (Snap.same (List.replicate 12 0) k))
      have HP := Lib.hid hp
      have hn8 : n < 8 := by omega
      clear hok hp HN HE hlt
      go_wp2_with fail
      refine (snphase_any W.heap.size _ b g k HH.out.sn).mono ?_
      rintro r w' ⟨rfl, rfl⟩
      rw [HP.out]
      go_wp2_with fail
      refine HST.out.mono ?_
      rintro r w4 ⟨rfl, v4, hH4⟩
      have HH4 := Lib.hid hH4
      clear hH4
      go_wp2_with fail
      go_roundw
      case rel => exact ⟨n + 1, v4, _, _, by omega, by go_num, HH4, HN2, HE2, by show _ ≤ _; rw [List.length_append]; have := HL.out; have := Sn.ev_le k (List.replicate 12 0); omega⟩
      case measure => simp [intOf]; omega
    · have hP' : P = 2 := by omega
      subst hP'
      obtain rfl : n = 8 := by omega
      have HP := Lib.hid hp
      have HPA := Lib.hid hpa
      have HX := Lib.hid HN.out.X
      clear hp hpa hx hP hP2 hP3 HN
      go_wp2_with fail
      refine (snphase_any W.heap.size _ b g k HH.out.sn).mono ?_
      rintro r w' ⟨rfl, rfl⟩
      rw [HP.out]
      go_wp2_with fail
      refine (snpasses_any W.heap.size _ b g k HH.out.sn).mono ?_
      rintro r w' ⟨rfl, rfl⟩
      rw [HPA.out]
      go_wp2_with fail
      refine (snwords_any W.heap.size _ b g k HP.out (by rw [HX.out.2]; decide) HH.out.sn).mono ?_
      rintro r w5 ⟨h5, rfl, ho5, hb5⟩
      rw [HX.out.2]
      have hbf := Lib.hid (below_step' HB0.out (HH.out.later hb5).below (by have := Hs0.out; omega))
      clear ho5 hb5
      go_wp2
      go_ret
      exact ⟨rfl, hbf.out⟩

/-- Turns as they came in. -/
theorem rows_turn7 {w : World} {a0 : Option Addr} {len cap : Nat} (h : IsRows w [.inl .i64, .inl .i64, .inl .u64] a0 len cap) (hl : 0 < len) :
    ∃ b off, ∃ X : Nat → Int × Int × Int, a0 = some ⟨b, off, none⟩ ∧ len ≤ cap ∧ b < w.heap.size ∧ ∀ i, i < len → w.cell? ⟨b, off + i * 3, none⟩ = some (i64 (X i).1) ∧ w.cell? ⟨b, off + i * 3 + 1, none⟩ = some (i64 (X i).2.1) ∧ w.cell? ⟨b, off + i * 3 + 2, none⟩ = some (u64 (X i).2.2) ∧ 0 ≤ (X i).2.2 ∧ (X i).2.2 ≤ 18446744073709551615 := by
  obtain ⟨h1, h2, h3, h4, h5⟩ := h
  obtain ⟨b, off, rfl⟩ := h4 hl
  have hx : ∀ i, ∃ x : Int × Int × Int, i < len → w.cell? ⟨b, off + i * 3, none⟩ = some (i64 x.1) ∧ w.cell? ⟨b, off + i * 3 + 1, none⟩ = some (i64 x.2.1) ∧ w.cell? ⟨b, off + i * 3 + 2, none⟩ = some (u64 x.2.2) ∧ 0 ≤ x.2.2 ∧ x.2.2 ≤ 18446744073709551615 := by
    intro i
    by_cases hi : i < len
    · obtain ⟨cs, hf, hc⟩ := h5 b off rfl i hi
      obtain ⟨c0, l0, rfl, r0, f0⟩ := fit_cons hf
      obtain ⟨c1, l1, rfl, r1, f1⟩ := fit_cons f0
      obtain ⟨c2, l2, rfl, r2, f2⟩ := fit_cons f1
      obtain ⟨x0, rfl, g0⟩ := r0
      obtain ⟨x1, rfl, g1⟩ := r1
      obtain ⟨x2, rfl, g2⟩ := r2
      exact ⟨⟨x0, x1, x2⟩, fun _ => ⟨hc 0 _ rfl, hc 1 _ rfl, hc 2 _ rfl, (bounds_u64 g2).1, (bounds_u64 g2).2⟩⟩
    · exact ⟨⟨0, 0, 0⟩, fun h => absurd h hi⟩
  obtain ⟨X, hX⟩ := Classical.axiomOfChoice hx
  exact ⟨b, off, X, rfl, h1, World.block_lt_of_cell? w _ (hX 0 hl).1, fun i hi => hX i hi⟩

theorem rows_turn7' {w : World} {a0 : Option Addr} {len cap : Nat} (h : IsRows w [.inl .i64, .inl .i64, .inl .u64] a0 len cap) :
    ∃ b off, ∃ X : Nat → Int × Int × Int, ∀ i, i < len → a0 = some ⟨b, off, none⟩ ∧ len ≤ cap ∧ b < w.heap.size ∧ w.cell? ⟨b, off + i * 3, none⟩ = some (i64 (X i).1) ∧ w.cell? ⟨b, off + i * 3 + 1, none⟩ = some (i64 (X i).2.1) ∧ w.cell? ⟨b, off + i * 3 + 2, none⟩ = some (u64 (X i).2.2) ∧ 0 ≤ (X i).2.2 ∧ (X i).2.2 ≤ 18446744073709551615 := by
  rcases Nat.eq_zero_or_pos len with h0 | h0
  · exact ⟨0, 0, fun _ => (0, 0, 0), fun i hi => by omega⟩
  · obtain ⟨b, off, X, h1, h2, h3, h4⟩ := rows_turn7 h h0
    exact ⟨b, off, X, fun i hi => ⟨h1, h2, h3, h4 i hi⟩⟩

/-- The layout's box and a turn's. -/
def AtCT7 (cb tb : Nat) (t s sl x : Int) (w : World) : Prop := AtC w cb t s 0 0 ∧ w.cell? ⟨tb, 1, none⟩ = some (i64 sl) ∧ w.cell? ⟨tb, 2, none⟩ = some (u64 x)
theorem AtCT7.keep {cb tb : Nat} {t s sl x : Int} {w w' : World} {T : Nat → Prop} (h : AtCT7 cb tb t s sl x w) (k : Keep T w w') (hc : ¬ T cb) (ht : ¬ T tb) : AtCT7 cb tb t s sl x w' :=
  ⟨h.1.keep k hc, k.cell h.2.1 ht, k.cell h.2.2 ht⟩
theorem AtCT7.later {cb tb : Nat} {t s sl x : Int} {w w' : World} (h : AtCT7 cb tb t s sl x w) (k : Below w.heap.size w w') : AtCT7 cb tb t s sl x w' :=
  h.keep (Keep.of_below (T := fun _ => False) k) (fun h => h) (fun h => h)
theorem AtCT7.made {cb : Nat} {t s : Int} {w : World} (h : AtC w cb t s 0 0) (th sl x : Int) (T : TypeId) : AtCT7 cb w.heap.size t s sl x (w.alloc (.cells #[i64 th, i64 sl, u64 x] T)) :=
  ⟨h.later (below_new (Below.refl _ _) _) (World.block_lt_of_cell? w _ h.c0), World.cell?_alloc_new w _ _ 1, World.cell?_alloc_new w _ _ 2⟩

/-- How many of these come ahead of i. -/
def cnt (f : Nat → Int) (i : Int) : Nat → Nat
  | 0 => 0
  | q + 1 => cnt f i q + if 0 ≤ f q ∧ f q < i then 1 else 0
theorem cnt_le (f : Nat → Int) (i : Int) : ∀ q, cnt f i q ≤ q
  | 0 => Nat.le_refl _
  | q + 1 => by
    have := cnt_le f i q
    unfold cnt
    split <;> omega
theorem cnt_mono (f : Nat → Int) (i : Int) : ∀ q, cnt f i q ≤ cnt f (i + 1) q
  | 0 => Nat.le_refl _
  | q + 1 => by
    have := cnt_mono f i q
    unfold cnt
    split
    · rw [if_pos (by omega)]
      omega
    · split <;> omega
theorem cnt_one (f : Nat → Int) (i : Int) (h0 : 0 ≤ i) (j : Nat) (hj : f j = i) : ∀ q, j < q → cnt f i q + 1 ≤ cnt f (i + 1) q
  | 0, h => by omega
  | q + 1, h => by
    rcases (by omega : j < q ∨ j = q) with h1 | rfl
    · have := cnt_one f i h0 j hj q h1
      unfold cnt
      split
      · rw [if_pos (by omega)]
        omega
      · split <;> omega
    · have := cnt_mono f i j
      unfold cnt
      rw [if_neg (by omega), if_pos (by omega)]
      omega

theorem lay44 {t s : Int} (t1 : 1 ≤ t) (t2 : t ≤ 4) (s1 : 1 ≤ s) (s2 : s ≤ 4) : ∃ N : Nat, t * s = (N : Int) ∧ Lay t s N ∧ 1 ≤ N ∧ N ≤ 16 := by
  have h := Lay.mk' t1 (by omega : t ≤ 64) s1 (by omega : s ≤ 64)
  have h2 := Int.mul_le_mul t2 s2 (by omega) (by omega)
  have hn := h.n1
  refine ⟨(t * s).toNat, by omega, ?_, by omega, by omega⟩
  rw [Int.toNat_of_nonneg (by omega)]
  exact h

end Go.Proofs.Ytgpdoihgnpkanaa
