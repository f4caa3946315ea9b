/-
  The contracts of what the laws on gets make: a thing's word, cells with things in the places, all places' words, an end; a get that may have ended a while ago; what it leaves; two of them, with cells each. No condition but that the layout is right and small.
-/
import Derived.Test.YticphioeipbnmaaGetHead
import Derived.Test.YticphioeipbnmaaPickRow
import Derived.Test.YticphioeipbnmaaMemBase
namespace Go.Proofs.Yticphioeipbnmaa
open Go.RowKit
set_option linter.unusedVariables false

theorem IsMem.loose {base base' : Nat} {w : World} {p c : Nat} {v : Value} {C : List Int} {L : List Ev} (h : IsMem base w p c v C L) (hb : base' ≤ base) : IsMem base' w p c v C L :=
  ⟨h.c0, h.c1, h.fz, row_base h.row hb, row_base h.log hb, h.pc, h.vp, h.vc, Nat.le_trans hb h.pb, h.ps, h.num⟩
theorem gunpack_at (x s e g lo hi : Int) (w : World) (h : x % 4 = s ∧ x / 4 % 2 = e ∧ x / 8 % 8192 = g ∧ x / 65536 % 16777216 = lo ∧ x / 1099511627776 = hi ∧ 0 ≤ x ∧ x ≤ 18446744073709551615) :
    Calls Try.prog 36 #[u64 x] w fun r w' => r = .returned (wd s e g lo hi) ∧ Below w.heap.size w w' := by
  obtain ⟨rfl, rfl, rfl, rfl, rfl, h0, h1⟩ := h
  exact unpack_any x w h0 h1
theorem gpack_at (s e g lo hi x : Int) (w : World) (h : 0 ≤ s ∧ s ≤ 2 ∧ 0 ≤ e ∧ e ≤ 1 ∧ 0 ≤ g ∧ g ≤ 8191 ∧ 0 ≤ lo ∧ lo ≤ 16777215 ∧ 0 ≤ hi ∧ hi ≤ 16777215) (hx : s + 4 * e + 8 * g + 65536 * lo + 1099511627776 * hi = x) :
    Calls Try.prog 17 #[wd s e g lo hi] w fun r w' => r = .returned (u64 x) ∧ Below w.heap.size w w' := hx ▸ pack_right s e g lo hi w (by omega)
theorem Hold.first {W w : World} {p c : Nat} {v : Value} {C : List Int} {L : List Ev} {R : List Thing} (h : Hold W w (tMem W.heap.size p c v C L :: R)) : IsMem W.heap.size w p c v C L := h.has 0 _ rfl
/-- The cells as they were made. -/
def MadePost (base : Nat) (C : List Int) (L : List Ev) (w : World) (r : Ending) (w' : World) : Prop :=
  ∃ p c v, r = .returned (pt p) ∧ IsMem base w' p c v C L ∧ Below w.heap.size w w' ∧ ∀ q, Foot p c v q → w.heap.size ≤ q

/-- A thing. -/
structure Th where
  state : Int
  gen : Int
  at' : Int
  wide : Int
  right : Bool
  value : Int

def Th.s (x : Th) : Int := IntKind.u64.wrap x.state % 3
def Th.e (x : Th) : Int := if x.right then 1 else 0
def Th.g (x : Th) : Int := 1 + x.gen % 8
def Th.lo (x : Th) : Int := x.at' % 16
def Th.hi (x : Th) : Int := x.at' % 16 + x.wide % 4
/-- Its word. -/
def Th.w (x : Th) : Int := x.s + 4 * x.e + 8 * x.g + 65536 * x.lo + 1099511627776 * x.hi
theorem Th.fits (x : Th) : 0 ≤ x.s ∧ x.s ≤ 2 ∧ 0 ≤ x.e ∧ x.e ≤ 1 ∧ 1 ≤ x.g ∧ x.g ≤ 8 ∧ 0 ≤ x.lo ∧ x.lo ≤ 15 ∧ 0 ≤ x.hi ∧ x.hi ≤ 18 := by
  have h1 : 0 ≤ x.e ∧ x.e ≤ 1 := by unfold Th.e; split <;> omega
  unfold Th.s Th.g Th.lo Th.hi
  omega
theorem Th.w_fit (x : Th) : 0 ≤ x.w ∧ x.w ≤ 18446744073709551615 := by
  have := x.fits
  unfold Th.w
  omega
theorem Th.w_parts (x : Th) : x.w % 4 = x.s ∧ x.w / 4 % 2 = x.e ∧ x.w / 8 % 8192 = x.g ∧ x.w / 65536 % 16777216 = x.lo ∧ x.w / 1099511627776 = x.hi := by
  have := x.fits
  unfold Th.w
  omega
def Th.v (x : Th) : Value := .agg #[i64 x.state, i64 x.gen, i64 x.at', i64 x.wide, .bool x.right, u64 x.value]

set_option maxHeartbeats 4000000 in
theorem thing_any (x : Th) (w : World) : Calls Try.prog 16 #[x.v] w fun r w' => r = .returned (wd x.s x.e x.g x.lo x.hi) ∧ Below w.heap.size w w' := by
  obtain ⟨a, g, t, wi, r, v⟩ := x
  have h0 : 0 ≤ IntKind.u64.wrap a := by rw [IntKind.wrap_u64]; omega
  obtain ⟨s, hs, s0, s1⟩ : ∃ s, IntKind.u64.wrap a % 3 = s ∧ 0 ≤ s ∧ s ≤ 2 := ⟨_, rfl, by omega, by omega⟩
  have hs1 : wrap64 ((IntKind.u64.wrap a).tmod 3) = s := by rw [Int.tmod_eq_emod_of_nonneg h0]; unfold wrap64; omega
  have hs2 : IntKind.i64.wrap ((IntKind.u64.wrap a).tmod 3) = s := by rw [Int.tmod_eq_emod_of_nonneg h0, hs]; exact IntWalk.i64_in _ (by omega)
  obtain ⟨lo, hlo, l0, l1, l2⟩ : ∃ u, bits .and .i64 t 15 = u ∧ t % 16 = u ∧ 0 ≤ u ∧ u ≤ 15 := ⟨t % 16, by rw [show (15 : Int) = ((15 : Nat) : Int) from rfl, and_i64 t 15 4 rfl (by decide)]; rfl, rfl, by omega, by omega⟩
  obtain ⟨wu, hwu, u0, u1, u2⟩ : ∃ u, bits .and .i64 wi 3 = u ∧ wi % 4 = u ∧ 0 ≤ u ∧ u ≤ 3 := ⟨wi % 4, by rw [show (3 : Int) = ((3 : Nat) : Int) from rfl, and_i64 wi 3 2 rfl (by decide)]; rfl, rfl, by omega, by omega⟩
  obtain ⟨gu, hgu, g0, g1, g2⟩ : ∃ u, bits .and .i64 g 7 = u ∧ g % 8 = u ∧ 0 ≤ u ∧ u ≤ 7 := ⟨g % 8, by rw [show (7 : Int) = ((7 : Nat) : Int) from rfl, and_i64 g 7 3 rfl (by decide)]; rfl, rfl, by omega, by omega⟩
  show Calls Try.prog _ #[.agg #[i64 a, i64 g, i64 t, i64 wi, .bool r, u64 v]] w fun rr w' => rr = .returned (wd (IntKind.u64.wrap a % 3) (if r then 1 else 0) (1 + g % 8) (t % 16) (t % 16 + wi % 4)) ∧ Below w.heap.size w w'
  rw [hs, l0, u0, g0]
  clear h0 hs l0 u0 g0
  have hg1 : wrap64 (1 + gu) = 1 + gu := by unfold wrap64; omega
  have hh1 : wrap64 (lo + wu) = lo + wu := by unfold wrap64; omega
  cases r
  · skip
    go_enter Try.func16, Try.ntmps16
    go_wp2
    refine bodyPost_ret (v := wd s 0 (1 + gu) lo (lo + wu)) (by simp [results, Try.results16, go_sem]) rfl ⟨rfl, ?_⟩
    (try refine below_step ?_ hB); repeat (first | exact Below.refl _ _ | refine below_step ?_ (by assumption) | refine below_new ?_ _ | refine Below.drew ?_ | refine below_drawn ?_ _)
  · skip
    go_enter Try.func16, Try.ntmps16
    go_wp2
    refine bodyPost_ret (v := wd s 1 (1 + gu) lo (lo + wu)) (by simp [results, Try.results16, go_sem]) rfl ⟨rfl, ?_⟩
    (try refine below_step ?_ hB); repeat (first | exact Below.refl _ _ | refine below_step ?_ (by assumption) | refine below_new ?_ _ | refine Below.drew ?_ | refine below_drawn ?_ _)

/-- What a list of things holds. -/
def IsThs (w : World) (a : Option Addr) (len cap : Nat) (tb off : Nat) (X : Nat → Th) : Prop := ∀ i, i < len → a = some ⟨tb, off, none⟩ ∧ len ≤ cap ∧ tb < w.heap.size ∧ w.cell? ⟨tb, off + i * 6, none⟩ = some (i64 (X i).state) ∧ w.cell? ⟨tb, off + i * 6 + 1, none⟩ = some (i64 (X i).gen) ∧ w.cell? ⟨tb, off + i * 6 + 2, none⟩ = some (i64 (X i).at') ∧ w.cell? ⟨tb, off + i * 6 + 3, none⟩ = some (i64 (X i).wide) ∧ w.cell? ⟨tb, off + i * 6 + 4, none⟩ = some (.bool (X i).right) ∧ w.cell? ⟨tb, off + i * 6 + 5, none⟩ = some (u64 (X i).value) ∧ 0 ≤ (X i).value ∧ (X i).value ≤ 18446744073709551615
theorem rows_things {w : World} {a0 : Option Addr} {len cap : Nat} (h : IsRows w [.inl .i64, .inl .i64, .inl .i64, .inl .i64, .inr true, .inl .u64] a0 len cap) : ∃ b off, ∃ X : Nat → Th, IsThs w a0 len cap b off X := by
  obtain ⟨h1, h2, h3, h4, h5⟩ := h
  rcases Nat.eq_zero_or_pos len with h0 | hl
  · exact ⟨0, 0, fun _ => ⟨0, 0, 0, 0, false, 0⟩, fun i hi => by omega⟩
  obtain ⟨b, off, rfl⟩ := h4 hl
  have hx : ∀ i, ∃ x : Th, i < len → w.cell? ⟨b, off + i * 6, none⟩ = some (i64 x.state) ∧ w.cell? ⟨b, off + i * 6 + 1, none⟩ = some (i64 x.gen) ∧ w.cell? ⟨b, off + i * 6 + 2, none⟩ = some (i64 x.at') ∧ w.cell? ⟨b, off + i * 6 + 3, none⟩ = some (i64 x.wide) ∧ w.cell? ⟨b, off + i * 6 + 4, none⟩ = some (.bool x.right) ∧ w.cell? ⟨b, off + i * 6 + 5, none⟩ = some (u64 x.value) ∧ 0 ≤ x.value ∧ x.value ≤ 18446744073709551615 := by
    intro i
    by_cases hi : i < len
    · obtain ⟨cs, hf, hc⟩ := h5 b off rfl i hi
      obtain ⟨c0, l0, rfl, r0, f0⟩ := fit_cons hf
      obtain ⟨c1, l1, rfl, r1, f1⟩ := fit_cons f0
      obtain ⟨c2, l2, rfl, r2, f2⟩ := fit_cons f1
      obtain ⟨c3, l3, rfl, r3, f3⟩ := fit_cons f2
      obtain ⟨c4, l4, rfl, r4, f4⟩ := fit_cons f3
      obtain ⟨c5, l5, rfl, r5, f5⟩ := fit_cons f4
      obtain ⟨x0, rfl, g0⟩ := r0
      obtain ⟨x1, rfl, g1⟩ := r1
      obtain ⟨x2, rfl, g2⟩ := r2
      obtain ⟨x3, rfl, g3⟩ := r3
      obtain ⟨x4, rfl⟩ := r4
      obtain ⟨x5, rfl, g5⟩ := r5
      exact ⟨⟨x0, x1, x2, x3, x4, x5⟩, fun _ => ⟨hc 0 _ rfl, hc 1 _ rfl, hc 2 _ rfl, hc 3 _ rfl, hc 4 _ rfl, hc 5 _ rfl, (bounds_u64 g5).1, (bounds_u64 g5).2⟩⟩
    · exact ⟨⟨0, 0, 0, 0, false, 0⟩, fun h => absurd h hi⟩
  obtain ⟨X, hX⟩ := Classical.axiomOfChoice hx
  exact ⟨b, off, X, fun i hi => ⟨rfl, h1, World.block_lt_of_cell? w _ (hX i hi).1, hX i hi⟩⟩
theorem IsThs.later {w w' : World} {a : Option Addr} {len cap tb off B : Nat} {X : Nat → Th} (h : IsThs w a len cap tb off X) (e : Below B w w') (hB : ∀ i, i < len → tb < B) : IsThs w' a len cap tb off X := fun i hi => by
  obtain ⟨h1, h2, h3, h4, h5, h6, h7, h8, h9, h10⟩ := h i hi
  have := hB i hi
  exact ⟨h1, h2, Nat.lt_of_lt_of_le h3 e.size, (e.cell (p := ⟨tb, _, none⟩) this).trans h4, (e.cell (p := ⟨tb, _, none⟩) this).trans h5, (e.cell (p := ⟨tb, _, none⟩) this).trans h6, (e.cell (p := ⟨tb, _, none⟩) this).trans h7, (e.cell (p := ⟨tb, _, none⟩) this).trans h8, (e.cell (p := ⟨tb, _, none⟩) this).trans h9, h10⟩

/-- The layout's box and a thing of a list. -/
structure AtCTh (cb tb o : Nat) (t s so d : Int) (x : Th) (w : World) : Prop where
  c : AtC w cb t s so d
  c0 : w.cell? ⟨tb, o, none⟩ = some (i64 x.state)
  c1 : w.cell? ⟨tb, o + 1, none⟩ = some (i64 x.gen)
  c2 : w.cell? ⟨tb, o + 2, none⟩ = some (i64 x.at')
  c3 : w.cell? ⟨tb, o + 3, none⟩ = some (i64 x.wide)
  c4 : w.cell? ⟨tb, o + 4, none⟩ = some (.bool x.right)
  c5 : w.cell? ⟨tb, o + 5, none⟩ = some (u64 x.value)
theorem AtCTh.keep {cb tb o : Nat} {t s so d : Int} {x : Th} {w w' : World} {T : Nat → Prop} (h : AtCTh cb tb o t s so d x w) (k : Keep T w w') (hc : ¬ T cb) (ht : ¬ T tb) : AtCTh cb tb o t s so d x w' :=
  ⟨h.c.keep k hc, k.cell h.c0 ht, k.cell h.c1 ht, k.cell h.c2 ht, k.cell h.c3 ht, k.cell h.c4 ht, k.cell h.c5 ht⟩
theorem AtCTh.later {cb tb o : Nat} {t s so d : Int} {x : Th} {w w' : World} (h : AtCTh cb tb o t s so d x w) (k : Below w.heap.size w w') : AtCTh cb tb o t s so d x w' :=
  h.keep (Keep.of_below (T := fun _ => False) k) (fun h => h) (fun h => h)

/-- The cells with the first e things laid in; what was noted. -/
def thC (X : Nat → Th) (N : Nat) (C : List Int) : Nat → List Int
  | 0 => C
  | e + 1 => ((thC X N C e).set e (X e).w).set (N + e) (X e).value
def thL (X : Nat → Th) (N : Nat) (C : List Int) : Nat → List Ev
  | 0 => []
  | e + 1 => thL X N C e ++ [⟨-1, 1, e, (thC X N C e).getD e 0, (X e).w, true⟩] ++ [⟨-1, 1, (N + e : Nat), ((thC X N C e).set e (X e).w).getD (N + e) 0, (X e).value, true⟩]
theorem thC_len (X : Nat → Th) (N : Nat) (C : List Int) : ∀ e, (thC X N C e).length = C.length
  | 0 => rfl
  | e + 1 => by rw [thC, List.length_set, List.length_set, thC_len X N C e]
theorem thL_len (X : Nat → Th) (N : Nat) (C : List Int) : ∀ e, (thL X N C e).length = 2 * e
  | 0 => rfl
  | e + 1 => by rw [thL, List.length_append, List.length_append, thL_len X N C e]; show 2 * e + 1 + 1 = _; omega

set_option maxRecDepth 100000 in
set_option maxHeartbeats 8000000 in
theorem things_any (base : Nat) (t s so d : Int) (N M : Nat) (hM : 2 * (N : Int) + 2 * t = (M : Int)) (a2 : Option Addr) (len2 cap2 tb off : Nat) (X : Nat → Th) (w : World) (hlay : Lay t s N) (hb : base ≤ w.heap.size) (HX : IsThs w a2 len2 cap2 tb off X) :
    Calls Try.prog 9 #[cf t s so d, .slice a2 len2 cap2] w (MadePost base (thC X N (List.replicate M 0) (min N len2)) (thL X N (List.replicate M 0) (min N len2)) w) := by
  have t1 := hlay.t1
  have hN1 := hlay.n1
  have hN2 := hlay.n2
  have HBB := Lib.hid hb
  have hA := AtC.made w t s so d
  have hB3 := below_new (Below.refl w.heap.size w) (.cells #[.int .i64 t, .int .i64 s, .int .i64 so, .int .i64 d] 27)
  have hs3 : w.heap.size < (w.alloc (.cells #[.int .i64 t, .int .i64 s, .int .i64 so, .int .i64 d] 27)).heap.size := by simp
  have HA := Lib.hid hA
  have HB := Lib.hid hB3
  have Hs := Lib.hid hs3
  clear hA hB3 hs3 hb
  go_enter Try.func9, Try.ntmps9
  go_wp2_with fail
  generalize w.alloc (.cells #[.int .i64 t, .int .i64 s, .int .i64 so, .int .i64 d] 27) = W at HA HB Hs ⊢
  generalize hcb : w.heap.size = cb at HA Hs ⊢
  have Hcb := Lib.hid hcb
  clear hcb
  refine (ccells_any t s so d N _ hlay).mono ?_
  rintro r w1 ⟨rfl, hb1⟩
  have HM := Lib.hid hM
  rw [hM]
  clear hM
  go_wp2_with fail
  refine (new_nat W.heap.size M M _ hb1.size (by have := HM.out; have := hlay.t2; omega) (.inl rfl)).mono ?_
  rintro r w2 ⟨p, c, rfl, hM2, hb2, hp, hc⟩
  have HH := Lib.hid (Hold.cells hb1 hM2 hb2 hp hc)
  clear hM2 hb2 hp hc hb1
  go_wp2_with fail
  go_loopw [6] (fun i wr => ∃ (e : Nat) (v : Value), e ≤ N ∧ e ≤ len2 ∧ i = .int .i64 e ∧ Hid (Hold W wr [tMem W.heap.size p c v (thC X N (List.replicate M 0) e) (thL X N (List.replicate M 0) e)])) (fun i _ => N - (intOf i).toNat)
  case atStart => exact ⟨0, _, by omega, by omega, rfl, HH⟩
  case round =>
    clear HH
    obtain ⟨e, v, he, hel2, rfl, HH⟩ := hrel
    obtain ⟨C, hC⟩ : ∃ C, thC X N (List.replicate M 0) e = C := ⟨_, rfl⟩
    obtain ⟨L, hL⟩ : ∃ L, thL X N (List.replicate M 0) e = L := ⟨_, rfl⟩
    have HC : Hid (C.length = M) := by show _ = _; rw [← hC, thC_len, List.length_replicate]
    have HL : Hid (L.length ≤ 2 * e) := by show _ ≤ _; rw [← hL, thL_len]; exact Nat.le_refl _
    rw [hC, hL] at HH
    have HCE := Lib.hid hC
    have HLE := Lib.hid hL
    clear hC hL
    obtain ⟨q0, q1, q2, q3⟩ := HA.out.later HH.out.below Hs.out
    go_wp2_with fail
    refine (call_any t s so d N _ hlay).mono ?_
    rintro r w5 ⟨rfl, hb5⟩
    replace HH := Lib.hid (HH.out.later hb5)
    clear hb5 q0 q1 q2 q3
    rcases Nat.lt_or_ge e N with heN | heN
    · have heN' : (e : Int) < (N : Int) := by omega
      rcases Nat.lt_or_ge e len2 with hel | hel
      · obtain ⟨rfl, hcap, htb, hx0, hx1, hx2, hx3, hx4, hx5, hx6, hx7⟩ := HX e hel
        have hel' : (e : Int) < (len2 : Int) := by omega
        have hwW : Below w.heap.size w w5 := below_step' HB.out HH.out.below HB.out.size
        have hM5 : IsMem W.heap.size w5 p c v C L := HH.out.has 0 _ rfl
        have hcf : ¬ Foot p c v cb := fun hf => by have := (hM5.foot _ hf).1; have := Hs.out; omega
        have htf : ¬ Foot p c v tb := fun hf => by have := (hM5.foot _ hf).1; have := HB.out.size; omega
        have HCT : Hid (AtCTh cb tb (off + e * 6) t s so d (X e) w5) := ⟨HA.out.later HH.out.below Hs.out, (hwW.cell (p := ⟨tb, _, none⟩) htb).trans hx0, (hwW.cell (p := ⟨tb, _, none⟩) htb).trans hx1, (hwW.cell (p := ⟨tb, _, none⟩) htb).trans hx2, (hwW.cell (p := ⟨tb, _, none⟩) htb).trans hx3, (hwW.cell (p := ⟨tb, _, none⟩) htb).trans hx4, (hwW.cell (p := ⟨tb, _, none⟩) htb).trans hx5⟩
        have HJ : Hid (e < C.length) := by have := HC.out; have := HM.out; show _ < _; omega
        have HJ2 : Hid (N + e < C.length) := by have := HC.out; have := HM.out; show _ < _; omega
        have HV : Hid (0 ≤ (X e).value ∧ (X e).value ≤ 18446744073709551615) := ⟨hx6, hx7⟩
        have HCF := Lib.hid hcf
        have HTF := Lib.hid htf
        clear hx0 hx1 hx2 hx3 hx4 hx5 hx6 hx7 hwW hM5 hcf htf
        generalize hxe : X e = x at HCT HV
        have HXE := Lib.hid hxe
        clear hxe
        go_wp2_with fail
        refine wp_region_seqS ((AtCTh cb tb (off + e * 6) t s so d x)) ((0, true) :: (1, true) :: (2, true) :: (4, true) :: (5, true) :: (6, true) :: (7, true) :: (3, false) :: (8, false) :: (9, false) :: (10, false) :: []) (by kernel_rfl) (by kernel_rfl) (by kernel_rfl) (by decide) (fun _ _ _ _ _ h => h) ((HCT.out.later (Below.refl _ _).drew)) ?_
        replace HCT := Lib.hid (HCT.out.later (Below.refl _ _).drew)
        replace HH := Lib.hid HH.out.drew
        repeat (first | (refine seq_take (v := ?_) rfl ?_ ?_ ?_; rotate_left 1; rfl; (focus (intro wS hSw; obtain ⟨⟨k0, k1, k2, k3⟩, g0, g1, g2, g3, g4, g5⟩ := hSw; go_simp; first | done | with_reducible rfl)); (try simp only [Act.put, List.setIfInBounds_toArray, List.set_cons_zero, List.set_cons_succ])) | (refine seq_skip rfl ?_ ?_; rfl; (try simp only [Act.put, List.setIfInBounds_toArray, List.set_cons_zero, List.set_cons_succ])))
        refine seq_run rfl (fun K hK => ?_)
        go_simp
        go_at_call 15
        refine (cword_any _ _ _ _ _ _).mono ?_
        rintro r w6 ⟨rfl, hb6⟩
        (try go_wp2_with fail)
        replace HCT := Lib.hid (HCT.out.later hb6)
        replace HH := Lib.hid (HH.out.later hb6)
        clear hb6
        refine hK.out _ _ (HCT.out) (fun _ => ?_)
        (try simp only [Act.put, List.setIfInBounds_toArray, List.set_cons_zero, List.set_cons_succ])
        clear hK K
        repeat (first | (refine seq_take (v := ?_) rfl ?_ ?_ ?_; rotate_left 1; rfl; (focus (intro wS hSw; obtain ⟨⟨k0, k1, k2, k3⟩, g0, g1, g2, g3, g4, g5⟩ := hSw; go_simp; first | done | with_reducible rfl)); (try simp only [Act.put, List.setIfInBounds_toArray, List.set_cons_zero, List.set_cons_succ])) | (refine seq_skip rfl ?_ ?_; rfl; (try simp only [Act.put, List.setIfInBounds_toArray, List.set_cons_zero, List.set_cons_succ])))
        refine seq_run rfl (fun K hK => ?_)
        go_simp
        go_at_call 16
        refine (thing_any x _).mono ?_
        rintro r w6 ⟨rfl, hb6⟩
        (try go_wp2_with fail)
        replace HCT := Lib.hid (HCT.out.later hb6)
        replace HH := Lib.hid (HH.out.later hb6)
        clear hb6
        refine hK.out _ _ (HCT.out) (fun _ => ?_)
        (try simp only [Act.put, List.setIfInBounds_toArray, List.set_cons_zero, List.set_cons_succ])
        clear hK K
        repeat (first | (refine seq_take (v := ?_) rfl ?_ ?_ ?_; rotate_left 1; rfl; (focus (intro wS hSw; obtain ⟨⟨k0, k1, k2, k3⟩, g0, g1, g2, g3, g4, g5⟩ := hSw; go_simp; first | done | with_reducible rfl)); (try simp only [Act.put, List.setIfInBounds_toArray, List.set_cons_zero, List.set_cons_succ])) | (refine seq_skip rfl ?_ ?_; rfl; (try simp only [Act.put, List.setIfInBounds_toArray, List.set_cons_zero, List.set_cons_succ])))
        obtain ⟨f0, f1, f2, f3, f4, f5, f6, f7, f8, f9⟩ := x.fits
        refine seq_run rfl (fun K hK => ?_)
        go_simp
        go_at_call 17
        refine (gpack_at x.s x.e x.g x.lo x.hi x.w _ (by omega) rfl).mono ?_
        rintro r w6 ⟨rfl, hb6⟩
        (try go_wp2_with fail)
        replace HCT := Lib.hid (HCT.out.later hb6)
        replace HH := Lib.hid (HH.out.later hb6)
        clear hb6
        refine hK.out _ _ (HCT.out) (fun _ => ?_)
        (try simp only [Act.put, List.setIfInBounds_toArray, List.set_cons_zero, List.set_cons_succ])
        clear hK K
        repeat (first | (refine seq_take (v := ?_) rfl ?_ ?_ ?_; rotate_left 1; rfl; (focus (intro wS hSw; obtain ⟨⟨k0, k1, k2, k3⟩, g0, g1, g2, g3, g4, g5⟩ := hSw; go_simp; first | done | with_reducible rfl)); (try simp only [Act.put, List.setIfInBounds_toArray, List.set_cons_zero, List.set_cons_succ])) | (refine seq_skip rfl ?_ ?_; rfl; (try simp only [Act.put, List.setIfInBounds_toArray, List.set_cons_zero, List.set_cons_succ])))
        obtain ⟨z4, z5⟩ := x.w_fit
        refine seq_run rfl (fun K hK => ?_)
        go_simp
        go_at_call 14
        refine (store_in W.heap.size _ p c _ _ _ (-1) e _ x.w (HH.out.has 0 _ rfl) (getD_at HJ.out) HH.out.size (by have := HL.out; omega) z4 z5).mono ?_
        rintro r w7 ⟨rfl, v7, hT7⟩
        (try go_wp2_with fail)
        replace HCT := Lib.hid (HCT.out.keep hT7.keep HCF.out HTF.out)
        have HH7 := Lib.hid (HH.out.mem 0 rfl hT7)
        clear hT7 HH HCF HTF
        refine hK.out _ _ (HCT.out) (fun _ => ?_)
        (try simp only [Act.put, List.setIfInBounds_toArray, List.set_cons_zero, List.set_cons_succ])
        clear hK K
        repeat (first | (refine seq_take (v := ?_) rfl ?_ ?_ ?_; rotate_left 1; rfl; (focus (intro wS hSw; obtain ⟨⟨k0, k1, k2, k3⟩, g0, g1, g2, g3, g4, g5⟩ := hSw; go_simp; first | done | with_reducible rfl)); (try simp only [Act.put, List.setIfInBounds_toArray, List.set_cons_zero, List.set_cons_succ])) | (refine seq_skip rfl ?_ ?_; rfl; (try simp only [Act.put, List.setIfInBounds_toArray, List.set_cons_zero, List.set_cons_succ])))
        refine seq_done ?_
        clear z4 z5 f0 f1 f2 f3 f4 f5 f6 f7 f8 f9
        have hM5 : IsMem W.heap.size w7 p c v7 _ _ := HH7.out.has 0 _ rfl
        have hcf : ¬ Foot p c v7 cb := fun hf => by have := (hM5.foot _ hf).1; have := Hs.out; omega
        have htf : ¬ Foot p c v7 tb := fun hf => by have := (hM5.foot _ hf).1; have := HB.out.size; omega
        have HCF := Lib.hid hcf
        have HTF := Lib.hid htf
        clear hM5 hcf htf
        go_wp2_with fail
        refine wp_region_seqS ((AtCTh cb tb (off + e * 6) t s so d x)) ((0, true) :: (1, true) :: (2, true) :: (4, true) :: (5, true) :: (6, true) :: (7, true) :: (8, true) :: (3, false) :: (9, false) :: []) (by kernel_rfl) (by kernel_rfl) (by kernel_rfl) (by decide) (fun _ _ _ _ _ h => h) ((HCT.out.later (Below.refl _ _).drew)) ?_
        replace HCT := Lib.hid (HCT.out.later (Below.refl _ _).drew)
        replace HH7 := Lib.hid HH7.out.drew
        repeat (first | (refine seq_take (v := ?_) rfl ?_ ?_ ?_; rotate_left 1; rfl; (focus (intro wS hSw; obtain ⟨⟨k0, k1, k2, k3⟩, g0, g1, g2, g3, g4, g5⟩ := hSw; go_simp; first | done | with_reducible rfl)); (try simp only [Act.put, List.setIfInBounds_toArray, List.set_cons_zero, List.set_cons_succ])) | (refine seq_skip rfl ?_ ?_; rfl; (try simp only [Act.put, List.setIfInBounds_toArray, List.set_cons_zero, List.set_cons_succ])))
        refine seq_run rfl (fun K hK => ?_)
        go_simp
        go_at_call 18
        refine (gvalue_at t s so d N e (N + e) _ hlay (by omega) (by omega) (by omega)).mono ?_
        rintro r w6 ⟨rfl, hb6⟩
        (try go_wp2_with fail)
        replace HCT := Lib.hid (HCT.out.later hb6)
        replace HH7 := Lib.hid (HH7.out.later hb6)
        clear hb6
        refine hK.out _ _ (HCT.out) (fun _ => ?_)
        (try simp only [Act.put, List.setIfInBounds_toArray, List.set_cons_zero, List.set_cons_succ])
        clear hK K
        repeat (first | (refine seq_take (v := ?_) rfl ?_ ?_ ?_; rotate_left 1; rfl; (focus (intro wS hSw; obtain ⟨⟨k0, k1, k2, k3⟩, g0, g1, g2, g3, g4, g5⟩ := hSw; go_simp; first | done | with_reducible rfl)); (try simp only [Act.put, List.setIfInBounds_toArray, List.set_cons_zero, List.set_cons_succ])) | (refine seq_skip rfl ?_ ?_; rfl; (try simp only [Act.put, List.setIfInBounds_toArray, List.set_cons_zero, List.set_cons_succ])))
        refine seq_run rfl (fun K hK => ?_)
        go_simp
        go_at_call 14
        refine (store_in W.heap.size _ p c _ _ _ (-1) (N + e) _ x.value (HH7.out.has 0 _ rfl) (getD_at (by rw [List.length_set]; exact HJ2.out)) HH7.out.size (by have := HL.out; rw [List.length_append]; show L.length + 1 < _; omega) HV.out.1 HV.out.2).mono ?_
        rintro r w8 ⟨rfl, v8, hT8⟩
        (try go_wp2_with fail)
        replace HCT := Lib.hid (HCT.out.keep hT8.keep HCF.out HTF.out)
        have HH8 := Lib.hid (HH7.out.mem 0 rfl hT8)
        clear hT8 HH7
        refine hK.out _ _ (HCT.out) (fun _ => ?_)
        (try simp only [Act.put, List.setIfInBounds_toArray, List.set_cons_zero, List.set_cons_succ])
        clear hK K
        repeat (first | (refine seq_take (v := ?_) rfl ?_ ?_ ?_; rotate_left 1; rfl; (focus (intro wS hSw; obtain ⟨⟨k0, k1, k2, k3⟩, g0, g1, g2, g3, g4, g5⟩ := hSw; go_simp; first | done | with_reducible rfl)); (try simp only [Act.put, List.setIfInBounds_toArray, List.set_cons_zero, List.set_cons_succ])) | (refine seq_skip rfl ?_ ?_; rfl; (try simp only [Act.put, List.setIfInBounds_toArray, List.set_cons_zero, List.set_cons_succ])))
        refine seq_done ?_
        clear HCT HCF HTF
        go_wp2_with fail
        go_roundw
        case rel => exact ⟨e + 1, v8, by omega, by omega, by go_num, by
          have h := HH8.out
          show Hold W _ _
          rw [thC, thL, HCE.out, HLE.out, HXE.out]
          exact h⟩
        case measure => simp [intOf]; omega
      · have hel' : ¬ e < len2 := by omega
        have HE : Hid (e = min N len2) := by show _ = _; omega
        clear HX
        have hMf : IsMem W.heap.size w5 p c v C L := HH.out.has 0 _ rfl
        have HMF := Lib.hid hMf
        clear hMf
        go_wp2
        go_ret
        exact ⟨p, c, v, rfl, by
          have h := HMF.out.loose (Nat.le_trans HBB.out HB.out.size)
          rw [← HE.out, HCE.out, HLE.out]
          exact h, below_step' HB.out HH.out.below HB.out.size, fun q hq => Nat.le_trans HB.out.size (HMF.out.foot q hq).1⟩
    · have heN' : ¬ e < N := by omega
      have HE : Hid (e = min N len2) := by show _ = _; omega
      clear HX
      have hMf : IsMem W.heap.size w5 p c v C L := HH.out.has 0 _ rfl
      have HMF := Lib.hid hMf
      clear hMf
      go_wp2
      go_ret
      exact ⟨p, c, v, rfl, by
        have h := HMF.out.loose (Nat.le_trans HBB.out HB.out.size)
        rw [← HE.out, HCE.out, HLE.out]
        exact h, below_step' HB.out HH.out.below HB.out.size, fun q hq => Nat.le_trans HB.out.size (HMF.out.foot q hq).1⟩

/-- A row of words, made new. -/
def RowPost (ws : List Int) (w : World) (r : Ending) (w' : World) : Prop :=
  ∃ g cap, r = .returned (.slice (some ⟨g, 0, none⟩) ws.length cap) ∧ ws.length ≤ cap ∧ w.heap.size ≤ g ∧ g < w'.heap.size ∧ w'.ownsRow w.heap.size 39 1 (.slice (some ⟨g, 0, none⟩) ws.length cap) ws.length (ws.map (Value.int .u64)) ∧ Below w.heap.size w w'

theorem take_succ_getD {C : List Int} {e : Nat} (h : e < C.length) : (C.take (e + 1)) = C.take e ++ [C.getD e 0] := by
  rw [List.take_add_one, List.getElem?_eq_getElem h, List.getD_eq_getElem?_getD, List.getElem?_eq_getElem h]
  rfl
theorem take_fit {C : List Int} (h : ∀ j, 0 ≤ C.getD j 0 ∧ C.getD j 0 ≤ 18446744073709551615) (N : Nat) : ∀ j, 0 ≤ (C.take N).getD j 0 ∧ (C.take N).getD j 0 ≤ 18446744073709551615 := fun j => by
  by_cases hj : j < N
  · rw [getD_take hj]
    exact h j
  · rw [List.getD_eq_getElem?_getD, List.getElem?_eq_none (by rw [List.length_take]; omega)]
    exact ⟨Int.le_refl _, by decide⟩

set_option maxRecDepth 100000 in
set_option maxHeartbeats 4000000 in
theorem words_any (base : Nat) (t s so d : Int) (N : Nat) (p c : Nat) (v : Value) (C : List Int) (L : List Ev) (w : World) (hlay : Lay t s N) (hM : IsMem base w p c v C L) (hN : N ≤ C.length) :
    Calls Try.prog 31 #[cf t s so d, pt p] w (RowPost (C.take N) w) := by
  have hn2 := hlay.n2
  have hn1 := hlay.n1
  have ht1 := hlay.t1
  have hA := AtC.made w t s so d
  have hB3 := below_new (Below.refl w.heap.size w) (.cells #[.int .i64 t, .int .i64 s, .int .i64 so, .int .i64 d] 27)
  have hs3 : w.heap.size + 1 = (w.alloc (.cells #[.int .i64 t, .int .i64 s, .int .i64 so, .int .i64 d] 27)).heap.size := by simp
  have HA := Lib.hid hA
  have HB := Lib.hid hB3
  have Hs := Lib.hid hs3
  have HM := Lib.hid hM
  have HF := Lib.hid hM.fit
  have HN := Lib.hid hN
  clear hA hB3 hs3 hM hN
  go_enter Try.func31, Try.ntmps31
  go_wp2_with fail
  generalize w.alloc (.cells #[.int .i64 t, .int .i64 s, .int .i64 so, .int .i64 d] 27) = wo at HA HB Hs ⊢
  have H0 : Hid (Hold wo (wo.alloc (.cells #[] 39)) [tRow wo.heap.size 39 1 (.slice (some ⟨wo.heap.size, 0, none⟩) 0 0) 0 ((C.take 0).map (Value.int .u64))]) :=
    Hold.more (l := []) (Hold.nil (Below.refl _ _)) (below_new (Below.refl _ _) (.cells #[] 39)) (tRow_ok _ _ _ _ _ _) (tRow_made wo _ 39 1 (Nat.le_refl _)) tRow_new
  rw [show w.heap.size + 1 = wo.heap.size from Hs.out]
  go_loopw [5, 6] (fun vb j wr => ∃ (e g cap : Nat), e ≤ N ∧ j = .int .i64 e ∧ vb = .slice (some ⟨g, 0, none⟩) e cap ∧ e ≤ cap ∧ g < wr.heap.size ∧ Hid (Hold wo wr [tRow wo.heap.size 39 1 vb e ((C.take e).map (Value.int .u64))])) (fun _ j _ => N - (intOf j).toNat)
  case atStart => exact ⟨0, wo.heap.size, 0, by omega, rfl, rfl, Nat.le_refl _, by simp, H0⟩
  case round =>
    clear H0
    obtain ⟨e, g, cap, he, rfl, rfl, hcap, hg, HH⟩ := hrel
    obtain ⟨q0, q1, q2, q3⟩ := HA.out.later HH.out.below (by have := Hs.out; omega)
    go_wp2_with fail
    refine (call_any t s so d N _ hlay).mono ?_
    rintro r w5 ⟨rfl, hb5⟩
    have hg5 : g < w5.heap.size := Nat.lt_of_lt_of_le hg hb5.size
    replace HH := Lib.hid (HH.out.later hb5)
    clear hb5 q0 q1 q2 q3
    rcases Nat.lt_or_ge e N with heN | heN
    · have heN' : (e : Int) < (N : Int) := by omega
      obtain ⟨q0, q1, q2, q3⟩ := HA.out.later HH.out.below (by have := Hs.out; omega)
      go_wp2_with fail
      refine (cword_any _ _ _ _ _ _).mono ?_
      rintro r w6 ⟨rfl, hb6⟩
      replace HH := Lib.hid (HH.out.later hb6)
      clear hb6 q0 q1 q2 q3
      have HM6 := Lib.hid (HM.out.later (below_step' HB.out HH.out.below HB.out.size))
      go_wp2_with fail
      refine (peek_in base _ p c _ _ _ e (C.getD e 0) HM6.out (getD_at (by have := HN.out; omega))).mono ?_
      rintro r w7 ⟨rfl, rfl⟩
      have HHa := Lib.hid (HH.out.later (below_new (Below.refl _ _) (.cells #[.int .u64 (C.getD e 0)] 39)))
      go_wp2_with (at_builtin; refine list_append_grew rfl _ _ 56 rfl wo.heap.size 39 _ 1 8 elem_u64 (.slice (some ⟨g, 0, none⟩) e cap) e ((C.take e).map (Value.int .u64)) rfl (Hold.has HHa.out 0 _ rfl) (some ⟨_, 0, none⟩) 1 1 [.int .u64 (C.getD e 0)] rfl (src_list w6 [.int .u64 (C.getD e 0)] 39 1 1 rfl (one_int _ _)) (by unfold maxLen; omega) (by omega) HHa.out.size ?_; intro v2 w11 hG; rw [show (C.take e).map (Value.int .u64) ++ [.int .u64 (C.getD e 0)] = (C.take (e + 1)).map (Value.int .u64) by rw [take_succ_getD (by have := HN.out; omega), List.map_append]; rfl] at hG; have HHb := Lib.hid (HHa.out.append 0 rfl rfl hG); clear hG; obtain ⟨g9, cp9, rfl, hc9, hg9⟩ := row_shape (Hold.has HHb.out 0 _ rfl) (Nat.succ_pos e))
      go_roundw
      case rel => exact ⟨e + 1, g9, cp9, by omega, by go_num, rfl, hc9, hg9, HHb⟩
      case measure => first | omega | (simp [intOf]; done) | (simp [intOf]; omega)
    · have heN' : ¬ (e : Int) < (N : Int) := by omega
      obtain rfl : e = N := by omega
      have hle : (C.take e).length = e := by rw [List.length_take]; have := HN.out; omega
      go_wp2_with fail
      go_ret
      have h1 := Hold.has HH.out 0 _ rfl
      refine ⟨g, cap, by rw [hle]; rfl, by rw [hle]; exact hcap, ?_, hg5, ?_, below_step' HB.out HH.out.below HB.out.size⟩
      · exact Nat.le_trans HB.out.size ((h1.lt g rfl).1)
      · rw [hle]
        exact row_base h1 HB.out.size

set_option maxHeartbeats 1000000 in
theorem end_any (right : Bool) (w : World) : Calls Try.prog 11 #[.bool right] w fun r w' => r = .returned (i64 (if right then 1 else 0)) ∧ Below w.heap.size w w' := by
  cases right
  · skip
    go_enter Try.func11, Try.ntmps11
    go_wp2
    go_ret
    exact ⟨rfl, Below.refl _ _⟩
  · skip
    go_enter Try.func11, Try.ntmps11
    go_wp2
    go_ret
    exact ⟨rfl, Below.refl _ _⟩
theorem end_at (right : Bool) (e : Int) (w : World) (h : (if right then (1 : Int) else 0) = e) : Calls Try.prog 11 #[.bool right] w fun r w' => r = .returned (i64 e) ∧ Below w.heap.size w w' := h ▸ end_any right w

theorem end_unique {ws : List Int} {e z z' : Int} (hf : ∀ i, 0 ≤ ws.getD i 0 ∧ ws.getD i 0 ≤ 18446744073709551615) (hl : ws.length ≤ 1000000) (h : IsEnd ws e z) (h' : IsEnd ws e z') : z = z' := by
  rcases h with ⟨h1, h2⟩ | ⟨i, h1, h2, h3, h4⟩
  · rcases h' with ⟨g1, g2⟩ | ⟨j, g1, g2, g3, g4⟩
    · omega
    · exact absurd g3 (h2 j g2)
  · rcases h' with ⟨g1, g2⟩ | ⟨j, g1, g2, g3, g4⟩
    · exact absurd h3 (g2 i h2)
    · have a := h4 j g2 g3
      have b := g4 i h2 h3
      have c : wkey ws i = wkey ws j := by
        by_cases he : e = 0
        · rw [if_pos he] at a b
          omega
        · rw [if_neg he] at a b
          omega
      have := wkey_inj hf (by omega) (by omega) c
      omega

theorem set_take {C : List Int} {N i : Nat} {x : Int} (h : N ≤ i) : (C.set i x).take N = C.take N := by
  refine List.ext_getElem (by simp) (fun j h1 h2 => ?_)
  have h3 : j < N := by rw [List.length_take] at h1; omega
  rw [List.getElem_take, List.getElem_take, List.getElem_set_ne (by omega)]
theorem set_take_lt {C : List Int} {N i : Nat} {x : Int} : (C.set i x).take N = (C.take N).set i x := by
  rw [List.take_set]
/-- What a get leaves of the words. -/
theorem done_words {C0 : List Int} {hz N j : Nat} (h : N ≤ hz) : (((tkC C0 hz j 4).set hz 0).take N) = (C0.take N).set j (tkW (C0.getD j 0)) := by
  rw [set_take h]
  show ((C0.set hz (j + 1)).set j (tkW (C0.getD j 0))).take N = _
  rw [set_take_lt, set_take h]

/-- A get that is done alone, behind n steps, of which some may have been for nothing. -/
structure GX (k : Ge) (C C0 : List Int) (N hz n : Nat) (e : Int) : Prop where
  e' : k.e = e
  at' : ∃ i, i ≤ n ∧ GA k C C0 N hz i ∧ (k.ph = 0 → i = n)
section
variable {k : Ge} {N hz n : Nat} {C C0 : List Int} {e z : Int}
theorem GX.ok (h : GX k C C0 N hz n e) : k.Ok N hz C := by
  obtain ⟨i, h1, h2, h3⟩ := h.at'
  exact h2.ok
theorem GX.len (h : GX k C C0 N hz n e) : C.length = C0.length := by
  obtain ⟨i, h1, h2, h3⟩ := h.at'
  exact h2.len
theorem GX.start {t s so d who start : Int} (hl : Lay t s N) (hlen : (C0.length : Int) = 2 * N + 2 * t) (hhz : (hz : Int) = 2 * N + who) (w0 : 0 ≤ who) (w1 : who < t) (he : e = 0 ∨ e = 1) : GX (ge0 t s so d who e start N) C0 C0 N hz 0 e :=
  ⟨rfl, 0, Nat.le_refl _, GA.start hl hlen hhz w0 w1 he, fun _ => rfl⟩
theorem GX.step (h : GX k C C0 N hz n e) (ha : k.ask C z) (hf : ∀ j, 0 ≤ C.getD j 0 ∧ C.getD j 0 ≤ 18446744073709551615) : GX (k.step N hz C z) (k.cells N hz C) C0 N hz (n + 1) e := by
  obtain ⟨i, h1, h2, h3⟩ := h.at'
  refine ⟨by rw [(k.step_same N hz C z).e]; exact h.e', ?_⟩
  by_cases hp : k.ph = 0
  · obtain rfl := h3 hp
    exact ⟨i + 1, Nat.le_refl _, h2.step hp ha hf, fun _ => rfl⟩
  · have e1 : k.step N hz C z = k := if_pos hp
    have e2 : k.cells N hz C = C := if_pos hp
    rw [e1, e2]
    exact ⟨i, by omega, h2, fun h => absurd h hp⟩
theorem GX.done (h : GX k C C0 N hz n e) (hn : 2 * N + 5 ≤ n) : (k.ph = 2 ∧ k.val = 0 ∧ IsEnd (C0.take N) e (-1) ∧ C = C0 ∧ k.tries = 0) ∨
    (∃ j : Nat, k.ph = 1 ∧ j < N ∧ IsEnd (C0.take N) e j ∧ k.val = C0.getD (N + j) 0 ∧ k.ta ≠ none ∧ C = (tkC C0 hz j 4).set hz 0 ∧ k.tries = 0) := by
  obtain ⟨i, h1, h2, h3⟩ := h.at'
  have he := h.e'
  rcases h2.cases with ⟨h4, h5⟩ | ⟨_, h4, h5, h6⟩ | ⟨j, _, h4, h5, h6, h7, h8, h9⟩
  · have := h3 h4
    omega
  · refine .inl ⟨h4, ?_, he ▸ h5, h6, h2.tries⟩
    unfold Ge.val
    rw [if_neg (by omega)]
  · exact .inr ⟨j, h4, h5, he ▸ h6, h7, h8, h9, h2.tries⟩
end

theorem words_at (base : Nat) (t s so d : Int) (N : Nat) (p c : Nat) (v : Value) (C ws : List Int) (L : List Ev) (w : World) (hlay : Lay t s N) (hM : IsMem base w p c v C L) (hN : N ≤ C.length) (hws : C.take N = ws) (hwl : ws.length = N) :
    Calls Try.prog 31 #[cf t s so d, pt p] w fun r w' => ∃ g cap, r = .returned (.slice (some ⟨g, 0, none⟩) N cap) ∧ N ≤ cap ∧ w.heap.size ≤ g ∧ g < w'.heap.size ∧ w'.ownsRow w.heap.size 39 1 (.slice (some ⟨g, 0, none⟩) N cap) N (ws.map (Value.int .u64)) ∧ IsWs w' (some ⟨g, 0, none⟩) ws ∧ Below w.heap.size w w' := by
  have hf := hM.fit
  refine (words_any base t s so d N p c v C L w hlay hM hN).mono ?_
  rintro r w' ⟨g, cap, h1, h2, h3, h4, h5, h6⟩
  have hf2 := take_fit hf N
  rw [hws] at h1 h2 h5 hf2
  have h7 := ws_of_row h5 hf2
  rw [hwl] at h1 h2 h5
  exact ⟨g, cap, h1, h2, h3, h4, h5, h7, h6⟩

/-- Two cells and two gets. -/
def GeH2 (W w : World) (p c : Nat) (C : List Int) (L : List Ev) (b : Nat) (k : Ge) (p' c' : Nat) (C' : List Int) (L' : List Ev) (b' : Nat) (k' : Ge) : Prop :=
  ∃ v bs gs bt v' bs' gs' bt', Hold W w [tMem W.heap.size p c v C L, tGe W.heap.size b bs gs bt k, tMem W.heap.size p' c' v' C' L', tGe W.heap.size b' bs' gs' bt' k']
section
variable {W w w1 : World} {p c b p' c' b' : Nat} {C C' : List Int} {L L' : List Ev} {k k' : Ge}
theorem GeH2.one (h : GeH2 W w p c C L b k p' c' C' L' b' k') : ∃ v' bs' gs' bt', GeH W w p c C L b k [tMem W.heap.size p' c' v' C' L', tGe W.heap.size b' bs' gs' bt' k'] := by
  obtain ⟨v, bs, gs, bt, v', bs', gs', bt', h⟩ := h
  exact ⟨v', bs', gs', bt', v, bs, gs, bt, h⟩
theorem GeH2.swap (h : GeH2 W w p c C L b k p' c' C' L' b' k') : GeH2 W w p' c' C' L' b' k' p c C L b k := by
  obtain ⟨v, bs, gs, bt, v', bs', gs', bt', h⟩ := h
  refine ⟨v', bs', gs', bt', v, bs, gs, bt, h.sel (fun i => (i + 2) % 4) (fun i A hA => ?_) (fun i j hi hj e => ?_)⟩
  · rcases i with _ | _ | _ | _ | i
    · exact hA
    · exact hA
    · exact hA
    · exact hA
    · simp at hA
  · simp only [List.length_cons, List.length_nil] at hi hj
    omega
theorem GeH2.later (h : GeH2 W w p c C L b k p' c' C' L' b' k') (e : Below w.heap.size w w1) : GeH2 W w1 p c C L b k p' c' C' L' b' k' := by
  obtain ⟨v, bs, gs, bt, v', bs', gs', bt', h⟩ := h
  exact ⟨v, bs, gs, bt, v', bs', gs', bt', Hold.later h e⟩
theorem GeH2.below (h : GeH2 W w p c C L b k p' c' C' L' b' k') : Below W.heap.size W w := by
  obtain ⟨_, _, _, _, h⟩ := h.one
  exact h.below
theorem GeH2.fit (h : GeH2 W w p c C L b k p' c' C' L' b' k') : ∀ j, 0 ≤ C.getD j 0 ∧ C.getD j 0 ≤ 18446744073709551615 := by
  obtain ⟨_, _, _, _, h⟩ := h.one
  exact h.fit
theorem GeH2.mem (h : GeH2 W w p c C L b k p' c' C' L' b' k') : ∃ v, IsMem W.heap.size w p c v C L := by
  obtain ⟨_, _, _, _, h⟩ := h.one
  exact h.mem
theorem GeH2.call {N hz : Nat} (h : GeH2 W w p c C L b k p' c' C' L' b' k') (hk : k.Ok N hz C) (hL : L.length < 1000000000) :
    Calls Try.prog 25 #[pt b, pt p] w fun r w' => ∃ z, k.ask C z ∧ r = .returned (i64 (k.step N hz C z).ph) ∧ GeH2 W w' p c (k.cells N hz C) (L ++ k.ev N hz C) b (k.step N hz C z) p' c' C' L' b' k' := by
  obtain ⟨v', bs', gs', bt', h⟩ := h.one
  refine (h.call hk hL).mono ?_
  rintro r w2 ⟨z, h1, h2, v, bs, gs, bt, h3⟩
  exact ⟨z, h1, h2, v, bs, gs, bt, v', bs', gs', bt', h3⟩
theorem GeH2.phase (h : GeH2 W w p c C L b k p' c' C' L' b' k') (x : Int) (hx : k.ph = x) : Calls Try.prog 30 #[pt b] w fun r w' => r = .returned (i64 x) ∧ Below w.heap.size w w' := by
  obtain ⟨_, _, _, _, h⟩ := h.one
  exact h.phase x hx
theorem GeH2.value (h : GeH2 W w p c C L b k p' c' C' L' b' k') (x : Int) (hx : k.val = x) (h1 : k.ph = 1 → k.ta ≠ none) : Calls Try.prog 28 #[pt b] w fun r w' => r = .returned (u64 x) ∧ Below w.heap.size w w' := by
  obtain ⟨_, _, _, _, h⟩ := h.one
  exact h.value x hx h1
end
end Go.Proofs.Yticphioeipbnmaa
