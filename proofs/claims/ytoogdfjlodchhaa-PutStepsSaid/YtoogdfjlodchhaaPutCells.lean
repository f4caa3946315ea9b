/-
  The contract of Cells of package stackyardlaw06, for whatever layout: just what is in the cells, and what was noted. No condition but that the layout is right and small.
-/
import Derived.Test.YtoogdfjlodchhaaClaimCells
import Derived.Test.YtoogdfjlodchhaaPutLaw
namespace Go.Proofs.Ytoogdfjlodchhaa
open Go.RowKit
set_option linter.unusedVariables false

/-- The layout's box and a place of a list. -/
def AtCPp (cb tb o : Nat) (t s so d x y : Int) (z : Bool) (w : World) : Prop := AtC w cb t s so d ∧ w.cell? ⟨tb, o, none⟩ = some (i64 x) ∧ w.cell? ⟨tb, o + 1, none⟩ = some (i64 y) ∧ w.cell? ⟨tb, o + 2, none⟩ = some (.bool z)
theorem AtCPp.keep {cb tb o : Nat} {t s so d x y : Int} {z : Bool} {w w' : World} {T : Nat → Prop} (h : AtCPp cb tb o t s so d x y z w) (k : Keep T w w') (hc : ¬ T cb) (ht : ¬ T tb) : AtCPp cb tb o t s so d x y z w' := ⟨h.1.keep k hc, k.cell h.2.1 ht, k.cell h.2.2.1 ht, k.cell h.2.2.2 ht⟩
theorem AtCPp.later {cb tb o : Nat} {t s so d x y : Int} {z : Bool} {w w' : World} (h : AtCPp cb tb o t s so d x y z w) (k : Below w.heap.size w w') : AtCPp cb tb o t s so d x y z w' :=
  h.keep (Keep.of_below (T := fun _ => False) k) (fun h => h) (fun h => h)
/-- The layout's box and a number of a list. -/
def AtCIp (cb tb o : Nat) (t s so d x : Int) (w : World) : Prop := AtC w cb t s so d ∧ w.cell? ⟨tb, o, none⟩ = some (i64 x)
theorem AtCIp.keep {cb tb o : Nat} {t s so d x : Int} {w w' : World} {T : Nat → Prop} (h : AtCIp cb tb o t s so d x w) (k : Keep T w w') (hc : ¬ T cb) (ht : ¬ T tb) : AtCIp cb tb o t s so d x w' := ⟨h.1.keep k hc, k.cell h.2 ht⟩
theorem AtCIp.later {cb tb o : Nat} {t s so d x : Int} {w w' : World} (h : AtCIp cb tb o t s so d x w) (k : Below w.heap.size w w') : AtCIp cb tb o t s so d x w' :=
  h.keep (Keep.of_below (T := fun _ => False) k) (fun h => h) (fun h => h)
theorem chazard_nat4 (t s so d : Int) (N : Nat) (i : Int) (j : Nat) (w : World) (h : Lay t s N) (i0 : 0 ≤ i) (i1 : i ≤ t) (hj : 2 * (N : Int) + i = (j : Int)) :
    Calls Try.prog 48 #[cf t s so d, i64 i] w fun r w' => r = .returned (i64 j) ∧ Below w.heap.size w w' := by
  rw [← hj]
  exact chazard_any t s so d N i w h i0 i1

/-- What a place says of itself. -/
def plG (y : Int) : Int := if bits .and .i64 y 64 = 64 then 8191 - y % 2 else y % 4
def plW (x : Int × Int × Bool) : Int := IntKind.u64.wrap x.1 % 3 + 8 * plG x.2.1
theorem plG_fit (y : Int) : 0 ≤ plG y ∧ plG y ≤ 8191 := by
  unfold plG
  split <;> omega
theorem plW_fit (x : Int × Int × Bool) : 0 ≤ plW x ∧ plW x ≤ 18446744073709551615 := by
  have := plG_fit x.2.1
  unfold plW
  omega
/-- The cells with the first e places' words laid in; and then with the first q hazards. -/
def wdsC (X : Nat → Int × Int × Bool) (C : List Int) : Nat → List Int
  | 0 => C
  | e + 1 => (wdsC X C e).set e (plW (X e))
def wdsL (X : Nat → Int × Int × Bool) (C : List Int) : Nat → List Ev
  | 0 => []
  | e + 1 => wdsL X C e ++ [⟨-1, 1, e, (wdsC X C e).getD e 0, plW (X e), true⟩]
def hzsC (Y : Nat → Int) (hz : Nat) (C : List Int) : Nat → List Int
  | 0 => C
  | q + 1 => (hzsC Y hz C q).set (hz + q) (Y q % 32)
def hzsL (Y : Nat → Int) (hz : Nat) (C : List Int) (L : List Ev) : Nat → List Ev
  | 0 => L
  | q + 1 => hzsL Y hz C L q ++ [⟨-1, 1, (hz + q : Nat), (hzsC Y hz C q).getD (hz + q) 0, Y q % 32, true⟩]
def ctlC (X : Nat → Int × Int × Bool) (Y : Nat → Int) (N M e q : Nat) : List Int := hzsC Y (2 * N) (wdsC X (List.replicate M 0) e) q
def ctlL (X : Nat → Int × Int × Bool) (Y : Nat → Int) (N M e q : Nat) : List Ev := hzsL Y (2 * N) (wdsC X (List.replicate M 0) e) (wdsL X (List.replicate M 0) e) q
theorem wdsC_len (X : Nat → Int × Int × Bool) (C : List Int) : ∀ e, (wdsC X C e).length = C.length
  | 0 => rfl
  | e + 1 => by rw [wdsC, List.length_set, wdsC_len X C e]
theorem wdsL_len (X : Nat → Int × Int × Bool) (C : List Int) : ∀ e, (wdsL X C e).length = e
  | 0 => rfl
  | e + 1 => by rw [wdsL, List.length_append, wdsL_len X C e]; rfl
theorem hzsC_len (Y : Nat → Int) (hz : Nat) (C : List Int) : ∀ e, (hzsC Y hz C e).length = C.length
  | 0 => rfl
  | e + 1 => by rw [hzsC, List.length_set, hzsC_len Y hz C e]
theorem hzsL_len (Y : Nat → Int) (hz : Nat) (C : List Int) (L : List Ev) : ∀ e, (hzsL Y hz C L e).length = L.length + e
  | 0 => rfl
  | e + 1 => by rw [hzsL, List.length_append, hzsL_len Y hz C L e]; rfl
theorem ctlC_len (X : Nat → Int × Int × Bool) (Y : Nat → Int) (N M e q : Nat) : (ctlC X Y N M e q).length = M := by
  unfold ctlC
  rw [hzsC_len, wdsC_len, List.length_replicate]
theorem ctlL_len (X : Nat → Int × Int × Bool) (Y : Nat → Int) (N M e q : Nat) : (ctlL X Y N M e q).length = e + q := by
  unfold ctlL
  rw [hzsL_len, wdsL_len]

set_option maxHeartbeats 2000000 in
theorem place_at (a g : Int) (l : Bool) (w : World) : Calls Try.prog 71 #[.agg #[i64 a, i64 g, .bool l]] w fun r w' => r = .returned (wd (IntKind.u64.wrap a % 3) 0 (plG g) 0 0) ∧ Below w.heap.size w w' := by
  have h0 : 0 ≤ IntKind.u64.wrap a := by rw [IntKind.wrap_u64]; omega
  obtain ⟨s, hs, s0, s1⟩ : ∃ s, IntKind.u64.wrap a % 3 = s ∧ 0 ≤ s ∧ s ≤ 2 := ⟨_, rfl, by omega, by omega⟩
  have hs1 : wrap64 ((IntKind.u64.wrap a).tmod 3) = s := by rw [Int.tmod_eq_emod_of_nonneg h0]; unfold wrap64; omega
  have hs2 : IntKind.i64.wrap ((IntKind.u64.wrap a).tmod 3) = s := by rw [Int.tmod_eq_emod_of_nonneg h0, hs]; exact IntWalk.i64_in _ (by omega)
  obtain ⟨g3, hg3, k0, k1⟩ : ∃ u, bits .and .i64 g 3 = u ∧ u = g % 4 ∧ 0 ≤ u := ⟨_, rfl, by rw [show (3 : Int) = ((3 : Nat) : Int) from rfl, and_i64 g 3 2 rfl (by decide)]; rfl, by rw [show (3 : Int) = ((3 : Nat) : Int) from rfl, and_i64 g 3 2 rfl (by decide)]; show (0 : Int) ≤ g % ((2 ^ 2 : Nat) : Int); omega⟩
  obtain ⟨g1, hg1, j0, j1⟩ : ∃ u, bits .and .i64 g 1 = u ∧ u = g % 2 ∧ 0 ≤ u := ⟨_, rfl, by rw [show (1 : Int) = ((1 : Nat) : Int) from rfl, and_i64 g 1 1 rfl (by decide)]; rfl, by rw [show (1 : Int) = ((1 : Nat) : Int) from rfl, and_i64 g 1 1 rfl (by decide)]; show (0 : Int) ≤ g % ((2 ^ 1 : Nat) : Int); omega⟩
  rw [hs]
  by_cases h : bits .and .i64 g 64 = 64
  · have q : (bits .and .i64 g 64 == 64) = true := by simp [h]
    have e : plG g = 8191 - g1 := by unfold plG; rw [if_pos h, ← j0]
    have hg2 : g1 ≤ 1 := by omega
    rw [e]
    clear h e h0 hs j0 k0
    go_enter Try.func71, Try.ntmps71
    go_wp2
    refine bodyPost_ret (v := wd s 0 (8191 - g1) 0 0) (by simp [results, Try.results71, go_sem]) rfl ⟨rfl, ?_⟩
    (try refine below_step ?_ hB); repeat (first | exact Below.refl _ _ | refine below_step ?_ (by assumption) | refine below_new ?_ _ | refine Below.drew ?_ | refine below_drawn ?_ _)
  · have q : (bits .and .i64 g 64 == 64) = false := by simp [h]
    have e : plG g = g3 := by unfold plG; rw [if_neg h, ← k0]
    rw [e]
    clear h e h0 hs j0 k0
    go_enter Try.func71, Try.ntmps71
    go_wp2
    refine bodyPost_ret (v := wd s 0 g3 0 0) (by simp [results, Try.results71, go_sem]) rfl ⟨rfl, ?_⟩
    (try refine below_step ?_ hB); repeat (first | exact Below.refl _ _ | refine below_step ?_ (by assumption) | refine below_new ?_ _ | refine Below.drew ?_ | refine below_drawn ?_ _)

/-- The cells as they were made. -/
def CtlPost (base : Nat) (C : List Int) (L : List Ev) (w : World) (r : Ending) (w' : World) : Prop :=
  ∃ p c v, r = .returned (pt p) ∧ IsMem base w' p c v C L ∧ Below w.heap.size w w' ∧ ∀ q, Foot p c v q → w.heap.size ≤ q

/-- What a list of places holds, and one of numbers. -/
def IsPl (w : World) (a : Option Addr) (len cap : Nat) (tb off : Nat) (X : Nat → Int × Int × Bool) : Prop := ∀ i, i < len → a = some ⟨tb, off, none⟩ ∧ len ≤ cap ∧ tb < w.heap.size ∧ w.cell? ⟨tb, off + i * 3, none⟩ = some (i64 (X i).1) ∧ w.cell? ⟨tb, off + i * 3 + 1, none⟩ = some (i64 (X i).2.1) ∧ w.cell? ⟨tb, off + i * 3 + 2, none⟩ = some (.bool (X i).2.2)
def IsNs (w : World) (a : Option Addr) (len cap : Nat) (tb off : Nat) (Y : Nat → Int) : Prop := ∀ i, i < len → a = some ⟨tb, off, none⟩ ∧ len ≤ cap ∧ tb < w.heap.size ∧ w.cell? ⟨tb, off + i, none⟩ = some (i64 (Y i))
theorem IsPl.later {w w' : World} {a : Option Addr} {len cap tb off B : Nat} {X : Nat → Int × Int × Bool} (h : IsPl w a len cap tb off X) (e : Below B w w') (hB : ∀ i, i < len → tb < B) : IsPl w' a len cap tb off X := fun i hi => by
  obtain ⟨h1, h2, h3, h4, h5, h6⟩ := h i hi
  have := hB i hi
  exact ⟨h1, h2, Nat.lt_of_lt_of_le h3 e.size, (e.cell (p := ⟨tb, _, none⟩) this).trans h4, (e.cell (p := ⟨tb, _, none⟩) this).trans h5, (e.cell (p := ⟨tb, _, none⟩) this).trans h6⟩
theorem IsNs.later {w w' : World} {a : Option Addr} {len cap tb off B : Nat} {Y : Nat → Int} (h : IsNs w a len cap tb off Y) (e : Below B w w') (hB : ∀ i, i < len → tb < B) : IsNs w' a len cap tb off Y := fun i hi => by
  obtain ⟨h1, h2, h3, h4⟩ := h i hi
  have := hB i hi
  exact ⟨h1, h2, Nat.lt_of_lt_of_le h3 e.size, (e.cell (p := ⟨tb, _, none⟩) this).trans h4⟩

set_option maxRecDepth 100000 in
set_option maxHeartbeats 8000000 in
theorem cells4_any (base : Nat) (t s so d : Int) (N M : Nat) (hM : 2 * (N : Int) + 2 * t = (M : Int)) (a2 a3 : Option Addr) (len2 cap2 len3 cap3 tb off ub uff : Nat) (X : Nat → Int × Int × Bool) (Y : Nat → Int) (w : World) (hlay : Lay t s N) (t2 : t ≤ 4) (hN2 : N ≤ 16) (hb : base ≤ w.heap.size) (HX : IsPl w a2 len2 cap2 tb off X) (HY : IsNs w a3 len3 cap3 ub uff Y) :
    Calls Try.prog 17 #[cf t s so d, .slice a2 len2 cap2, .slice a3 len3 cap3] w (CtlPost base (ctlC X Y N M (min N len2) (min t.toNat len3)) (ctlL X Y N M (min N len2) (min t.toNat len3)) w) := by
  have t1 := hlay.t1
  have hN1 := hlay.n1
  have HN2 : Hid (N ≤ 16) := hN2
  have HBB := Lib.hid hb
  have hA := AtC.made w t s so d
  have hB3 := below_new (Below.refl w.heap.size w) (.cells #[.int .i64 t, .int .i64 s, .int .i64 so, .int .i64 d] 29)
  have hs3 : w.heap.size < (w.alloc (.cells #[.int .i64 t, .int .i64 s, .int .i64 so, .int .i64 d] 29)).heap.size := by simp
  have HA := Lib.hid hA
  have HB := Lib.hid hB3
  have Hs := Lib.hid hs3
  clear hA hB3 hs3 hb
  go_enter Try.func17, Try.ntmps17
  go_wp2_with fail
  generalize w.alloc (.cells #[.int .i64 t, .int .i64 s, .int .i64 so, .int .i64 d] 29) = W at HA HB Hs ⊢
  generalize hcb : w.heap.size = cb at HA Hs ⊢
  have Hcb := Lib.hid hcb
  clear hcb
  refine (ccells_any t s so d N _ hlay).mono ?_
  rintro r w1 ⟨rfl, hb1⟩
  have HM := Lib.hid hM
  rw [hM]
  clear hM
  go_wp2_with fail
  refine (new_nat W.heap.size M M _ hb1.size (by have := HM.out; omega) (.inl rfl)).mono ?_
  rintro r w2 ⟨p, c, rfl, hM2, hb2, hp, hc⟩
  have HH := Lib.hid (Hold.cells hb1 hM2 hb2 hp hc)
  clear hM2 hb2 hp hc hb1
  go_wp2_with fail
  go_loopw [8] (fun i wr => ∃ (e : Nat) (v : Value), e ≤ N ∧ e ≤ len2 ∧ i = .int .i64 e ∧ Hid (Hold W wr [tMem W.heap.size p c v (wdsC X (List.replicate M 0) e) (wdsL X (List.replicate M 0) e)])) (fun i _ => N - (intOf i).toNat)
  case atStart => exact ⟨0, _, by omega, by omega, rfl, HH⟩
  case round =>
    clear HH
    obtain ⟨e, v, he, hel2, rfl, HH⟩ := hrel
    obtain ⟨C, hC⟩ : ∃ C, wdsC X (List.replicate M 0) e = C := ⟨_, rfl⟩
    obtain ⟨L, hL⟩ : ∃ L, wdsL X (List.replicate M 0) e = L := ⟨_, rfl⟩
    have HC : Hid (C.length = M) := by show _ = _; rw [← hC, wdsC_len, List.length_replicate]
    have HL : Hid (L.length ≤ e) := by show _ ≤ _; rw [← hL, wdsL_len]; exact Nat.le_refl _
    rw [hC, hL] at HH
    have HCE := Lib.hid hC
    have HLE := Lib.hid hL
    clear hC hL
    obtain ⟨q0, q1, q2, q3⟩ := HA.out.later HH.out.below Hs.out
    go_wp2_with fail
    refine (call_any t s so d N _ hlay).mono ?_
    rintro r w5 ⟨rfl, hb5⟩
    replace HH := Lib.hid (HH.out.later hb5)
    clear hb5 q0 q1 q2 q3
    rcases Nat.lt_or_ge e N with heN | heN
    · have heN' : (e : Int) < (N : Int) := by omega
      rcases Nat.lt_or_ge e len2 with hel | hel
      · obtain ⟨rfl, hcap, htb, hx0, hx1, hx2⟩ := HX e hel
        have hel' : (e : Int) < (len2 : Int) := by omega
        have hwW : Below w.heap.size w w5 := below_step' HB.out HH.out.below HB.out.size
        have gx0 := (hwW.cell (p := ⟨tb, _, none⟩) htb).trans hx0
        have gx1 := (hwW.cell (p := ⟨tb, _, none⟩) htb).trans hx1
        have gx2 := (hwW.cell (p := ⟨tb, _, none⟩) htb).trans hx2
        have hpw : plW (X e) = IntKind.u64.wrap (X e).1 % 3 + 8 * plG (X e).2.1 := rfl
        have hgf := plG_fit (X e).2.1
        generalize (X e).1 = x at gx0 hpw
        generalize (X e).2.1 = y at gx1 hpw hgf
        generalize (X e).2.2 = z at gx2
        have HPW := Lib.hid hpw
        clear hpw
        have hM5 : IsMem W.heap.size w5 p c v C L := HH.out.has 0 _ rfl
        have hcf : ¬ Foot p c v cb := fun hf => by have := (hM5.foot _ hf).1; have := Hs.out; omega
        have htf : ¬ Foot p c v tb := fun hf => by have := (hM5.foot _ hf).1; have := HB.out.size; omega
        have HCT : Hid (AtCPp cb tb (off + e * 3) t s so d x y z w5) := ⟨HA.out.later HH.out.below Hs.out, gx0, gx1, gx2⟩
        have HJ : Hid (e < C.length) := by have := HC.out; have := HM.out; show _ < _; omega
        have HCF := Lib.hid hcf
        have HTF := Lib.hid htf
        clear hx0 hx1 hx2 hwW hM5 hcf htf HY
        go_wp2_with fail
        refine wp_region_seqS ((AtCPp cb tb (off + e * 3) t s so d x y z)) ((0, true) :: (1, true) :: (2, true) :: (4, true) :: (5, true) :: (6, true) :: (7, true) :: (3, false) :: (8, false) :: (9, false) :: (10, false) :: []) (by kernel_rfl) (by kernel_rfl) (by kernel_rfl) (by decide) (fun _ _ _ _ _ h => h) ((HCT.out.later (Below.refl _ _).drew)) ?_
        replace HCT := Lib.hid (HCT.out.later (Below.refl _ _).drew)
        replace HH := Lib.hid HH.out.drew
        clear gx0 gx1 gx2
        repeat (first | (refine seq_take (v := ?_) rfl ?_ ?_ ?_; rotate_left 1; rfl; (focus (intro wS hSw; obtain ⟨⟨k0, k1, k2, k3⟩, kx, ky, kz⟩ := hSw; go_simp; first | done | with_reducible rfl)); (try simp only [Act.put, List.setIfInBounds_toArray, List.set_cons_zero, List.set_cons_succ])) | (refine seq_skip rfl ?_ ?_; rfl; (try simp only [Act.put, List.setIfInBounds_toArray, List.set_cons_zero, List.set_cons_succ])))
        refine seq_run rfl (fun K hK => ?_)
        go_simp
        go_at_call 32
        refine (cword_any _ _ _ _ _ _).mono ?_
        rintro r w6 ⟨rfl, hb6⟩
        (try go_wp2_with fail)
        replace HCT := Lib.hid (HCT.out.later hb6)
        replace HH := Lib.hid (HH.out.later hb6)
        clear hb6
        refine hK.out _ _ (HCT.out) (fun _ => ?_)
        (try simp only [Act.put, List.setIfInBounds_toArray, List.set_cons_zero, List.set_cons_succ])
        clear hK K
        repeat (first | (refine seq_take (v := ?_) rfl ?_ ?_ ?_; rotate_left 1; rfl; (focus (intro wS hSw; obtain ⟨⟨k0, k1, k2, k3⟩, kx, ky, kz⟩ := hSw; go_simp; first | done | with_reducible rfl)); (try simp only [Act.put, List.setIfInBounds_toArray, List.set_cons_zero, List.set_cons_succ])) | (refine seq_skip rfl ?_ ?_; rfl; (try simp only [Act.put, List.setIfInBounds_toArray, List.set_cons_zero, List.set_cons_succ])))
        refine seq_run rfl (fun K hK => ?_)
        go_simp
        go_at_call 71
        refine (place_at x y z _).mono ?_
        rintro r w6 ⟨rfl, hb6⟩
        obtain ⟨ps, hps, z0, z1⟩ : ∃ s, IntKind.u64.wrap x % 3 = s ∧ 0 ≤ s ∧ s ≤ 2 := ⟨_, rfl, by omega, by omega⟩
        obtain ⟨pg, hpg⟩ : ∃ g, plG y = g := ⟨_, rfl⟩
        obtain ⟨z2, z3⟩ := hgf
        have HPW2 : Hid (plW (X e) = ps + 8 * pg) := by have h := HPW.out; rw [hps, hpg] at h; exact h
        rw [hps, hpg] at *
        (try go_wp2_with fail)
        replace HCT := Lib.hid (HCT.out.later hb6)
        replace HH := Lib.hid (HH.out.later hb6)
        clear hb6
        refine hK.out _ _ (HCT.out) (fun _ => ?_)
        (try simp only [Act.put, List.setIfInBounds_toArray, List.set_cons_zero, List.set_cons_succ])
        clear hK K
        repeat (first | (refine seq_take (v := ?_) rfl ?_ ?_ ?_; rotate_left 1; rfl; (focus (intro wS hSw; obtain ⟨⟨k0, k1, k2, k3⟩, kx, ky, kz⟩ := hSw; go_simp; first | done | with_reducible rfl)); (try simp only [Act.put, List.setIfInBounds_toArray, List.set_cons_zero, List.set_cons_succ])) | (refine seq_skip rfl ?_ ?_; rfl; (try simp only [Act.put, List.setIfInBounds_toArray, List.set_cons_zero, List.set_cons_succ])))
        refine seq_run rfl (fun K hK => ?_)
        go_simp
        go_at_call 33
        refine (pack_right ps 0 pg 0 0 _ (by omega)).mono ?_
        rintro r w6 ⟨rfl, hb6⟩
        (try go_wp2_with fail)
        replace HCT := Lib.hid (HCT.out.later hb6)
        replace HH := Lib.hid (HH.out.later hb6)
        clear hb6
        refine hK.out _ _ (HCT.out) (fun _ => ?_)
        (try simp only [Act.put, List.setIfInBounds_toArray, List.set_cons_zero, List.set_cons_succ])
        clear hK K
        repeat (first | (refine seq_take (v := ?_) rfl ?_ ?_ ?_; rotate_left 1; rfl; (focus (intro wS hSw; obtain ⟨⟨k0, k1, k2, k3⟩, kx, ky, kz⟩ := hSw; go_simp; first | done | with_reducible rfl)); (try simp only [Act.put, List.setIfInBounds_toArray, List.set_cons_zero, List.set_cons_succ])) | (refine seq_skip rfl ?_ ?_; rfl; (try simp only [Act.put, List.setIfInBounds_toArray, List.set_cons_zero, List.set_cons_succ])))
        obtain ⟨pv, hpv, z4, z5⟩ : ∃ pv, ps + 4 * 0 + 8 * pg + 65536 * 0 + 1099511627776 * 0 = pv ∧ 0 ≤ pv ∧ pv ≤ 18446744073709551615 := ⟨_, rfl, by omega, by omega⟩
        refine seq_run rfl (fun K hK => ?_)
        go_simp
        go_at_call 22
        refine (store_in W.heap.size _ p c _ _ _ (-1) e _ _ (HH.out.has 0 _ rfl) (getD_at HJ.out) HH.out.size (by have := HL.out; omega) (by omega) (by omega)).mono ?_
        rintro r w7 ⟨rfl, v7, hT7⟩
        (try go_wp2_with fail)
        replace HCT := Lib.hid (HCT.out.keep hT7.keep HCF.out HTF.out)
        have HH7 := Lib.hid (HH.out.mem 0 rfl hT7)
        clear hT7 HH
        refine hK.out _ _ (HCT.out) (fun _ => ?_)
        (try simp only [Act.put, List.setIfInBounds_toArray, List.set_cons_zero, List.set_cons_succ])
        clear hK K
        repeat (first | (refine seq_take (v := ?_) rfl ?_ ?_ ?_; rotate_left 1; rfl; (focus (intro wS hSw; obtain ⟨⟨k0, k1, k2, k3⟩, kx, ky, kz⟩ := hSw; go_simp; first | done | with_reducible rfl)); (try simp only [Act.put, List.setIfInBounds_toArray, List.set_cons_zero, List.set_cons_succ])) | (refine seq_skip rfl ?_ ?_; rfl; (try simp only [Act.put, List.setIfInBounds_toArray, List.set_cons_zero, List.set_cons_succ])))
        refine seq_done ?_
        clear HCT HCF HTF hpv
        go_wp2_with fail
        go_roundw
        case rel => exact ⟨e + 1, v7, by omega, by omega, by go_num, by
          have h := HH7.out
          have h1 : wdsC X (List.replicate M 0) (e + 1) = C.set e (ps + 8 * pg) := by rw [wdsC, HCE.out, HPW2.out]
          have h2 : wdsL X (List.replicate M 0) (e + 1) = L ++ [⟨-1, 1, e, C.getD e 0, ps + 8 * pg, true⟩] := by rw [wdsL, HLE.out, HCE.out, HPW2.out]
          show Hold W _ _
          rw [h1, h2]
          exact h⟩
        case measure => simp [intOf]; omega
      · have hel' : ¬ e < len2 := by omega
        have HE : Hid (e = min N len2) := by show _ = _; omega
        obtain ⟨wo, rfl⟩ : ∃ wo : World, wo = wr := ⟨_, rfl⟩
        clear HX
        go_wp2_with fail
        (try clear hel')
        (try clear hel)
        (try clear heN')
        (try clear heN)
        go_loopw [9] (fun i wr => ∃ (q : Nat) (v : Value), (q : Int) ≤ t ∧ q ≤ len3 ∧ i = .int .i64 q ∧ Hid (Hold W wr [tMem W.heap.size p c v (hzsC Y (2 * N) C q) (hzsL Y (2 * N) C L q)])) (fun i _ => t.toNat - (intOf i).toNat)
        case atStart => exact ⟨0, _, by omega, by omega, rfl, HH⟩
        case round =>
          clear HH
          obtain ⟨q, v, hq, hq3, rfl, HH⟩ := hrel
          obtain ⟨D, hD⟩ : ∃ D, hzsC Y (2 * N) C q = D := ⟨_, rfl⟩
          obtain ⟨K, hK⟩ : ∃ K, hzsL Y (2 * N) C L q = K := ⟨_, rfl⟩
          have HDC : Hid (D.length = M) := by show _ = _; rw [← hD, hzsC_len]; exact HC.out
          have HKL : Hid (K.length ≤ e + q) := by show _ ≤ _; rw [← hK, hzsL_len]; have := HL.out; omega
          rw [hD, hK] at HH
          have HDE := Lib.hid hD
          have HKE := Lib.hid hK
          clear hD hK
          obtain ⟨q0, q1, q2, q3⟩ := HA.out.later HH.out.below Hs.out
          rcases Int.lt_or_le (q : Int) t with hqt | hqt
          · rcases Nat.lt_or_ge q len3 with hql | hql
            · obtain ⟨rfl, hcap, hub, hy⟩ := HY q hql
              have hql' : (q : Int) < (len3 : Int) := by omega
              have hwW : Below w.heap.size w wr := below_step' HB.out HH.out.below HB.out.size
              have gy := (hwW.cell (p := ⟨ub, _, none⟩) hub).trans hy
              generalize hy0 : Y q = y at gy
              have HYQ := Lib.hid hy0
              clear hy0
              obtain ⟨u, hu, hue, l5, g5⟩ : ∃ u, bits .and .i64 y 31 = u ∧ y % 32 = u ∧ 0 ≤ u ∧ u ≤ 31 := ⟨y % 32, by rw [show (31 : Int) = ((31 : Nat) : Int) from rfl, and_i64 y 31 5 rfl (by decide)]; rfl, rfl, by omega, by omega⟩
              have hwu : IntKind.u64.wrap u = u := by rw [IntKind.wrap_u64]; omega
              have hM5 : IsMem W.heap.size wr p c v D K := HH.out.has 0 _ rfl
              have hcf : ¬ Foot p c v cb := fun hf => by have := (hM5.foot _ hf).1; have := Hs.out; omega
              have htf : ¬ Foot p c v ub := fun hf => by have := (hM5.foot _ hf).1; have := HB.out.size; omega
              have HCT : Hid (AtCIp cb ub (uff + q) t s so d y wr) := ⟨HA.out.later HH.out.below Hs.out, gy⟩
              obtain ⟨j, hj⟩ : ∃ j : Nat, 2 * (N : Int) + (q : Int) = (j : Int) := ⟨2 * N + q, by omega⟩
              have HJ : Hid (j < D.length) := by have := HDC.out; have := HM.out; show _ < _; omega
              have HJE := Lib.hid hj
              have HUE := Lib.hid hue
              have HJ2 : Hid (j = 2 * N + q) := by show _ = _; omega
              have HCF := Lib.hid hcf
              have HTF := Lib.hid htf
              clear hy hwW hM5 hcf htf hj hue
              go_wp2_with fail
              refine wp_region_seqS ((AtCIp cb ub (uff + q) t s so d y)) ((0, true) :: (1, true) :: (2, true) :: (4, true) :: (5, true) :: (6, true) :: (7, true) :: (8, true) :: (9, true) :: (3, false) :: (10, false) :: []) (by kernel_rfl) (by kernel_rfl) (by kernel_rfl) (by decide) (fun _ _ _ _ _ h => h) ((HCT.out.later (Below.refl _ _).drew)) ?_
              replace HCT := Lib.hid (HCT.out.later (Below.refl _ _).drew)
              replace HH := Lib.hid HH.out.drew
              clear gy q0 q1 q2 q3
              repeat (first | (refine seq_take (v := ?_) rfl ?_ ?_ ?_; rotate_left 1; rfl; (focus (intro wS hSw; obtain ⟨⟨k0, k1, k2, k3⟩, ky⟩ := hSw; go_simp; first | done | with_reducible rfl)); (try simp only [Act.put, List.setIfInBounds_toArray, List.set_cons_zero, List.set_cons_succ])) | (refine seq_skip rfl ?_ ?_; rfl; (try simp only [Act.put, List.setIfInBounds_toArray, List.set_cons_zero, List.set_cons_succ])))
              refine seq_run rfl (fun K hK => ?_)
              go_simp
              go_at_call 48
              refine (chazard_nat4 t s so d N _ j _ hlay (by omega) (by omega) HJE.out).mono ?_
              rintro r w6 ⟨rfl, hb6⟩
              (try go_wp2_with fail)
              replace HCT := Lib.hid (HCT.out.later hb6)
              replace HH := Lib.hid (HH.out.later hb6)
              clear hb6
              refine hK.out _ _ (HCT.out) (fun _ => ?_)
              (try simp only [Act.put, List.setIfInBounds_toArray, List.set_cons_zero, List.set_cons_succ])
              clear hK K
              repeat (first | (refine seq_take (v := ?_) rfl ?_ ?_ ?_; rotate_left 1; rfl; (focus (intro wS hSw; obtain ⟨⟨k0, k1, k2, k3⟩, ky⟩ := hSw; go_simp; first | done | with_reducible rfl)); (try simp only [Act.put, List.setIfInBounds_toArray, List.set_cons_zero, List.set_cons_succ])) | (refine seq_skip rfl ?_ ?_; rfl; (try simp only [Act.put, List.setIfInBounds_toArray, List.set_cons_zero, List.set_cons_succ])))
              refine seq_run rfl (fun K hK => ?_)
              go_simp
              go_at_call 22
              refine (store_in W.heap.size _ p c _ _ _ (-1) j _ u (HH.out.has 0 _ rfl) (getD_at HJ.out) HH.out.size (by have := HKL.out; have := HN2.out; omega) (by omega) (by omega)).mono ?_
              rintro r w7 ⟨rfl, v7, hT7⟩
              (try go_wp2_with fail)
              replace HCT := Lib.hid (HCT.out.keep hT7.keep HCF.out HTF.out)
              have HH7 := Lib.hid (HH.out.mem 0 rfl hT7)
              clear hT7 HH
              refine hK.out _ _ (HCT.out) (fun _ => ?_)
              (try simp only [Act.put, List.setIfInBounds_toArray, List.set_cons_zero, List.set_cons_succ])
              clear hK K
              repeat (first | (refine seq_take (v := ?_) rfl ?_ ?_ ?_; rotate_left 1; rfl; (focus (intro wS hSw; obtain ⟨⟨k0, k1, k2, k3⟩, ky⟩ := hSw; go_simp; first | done | with_reducible rfl)); (try simp only [Act.put, List.setIfInBounds_toArray, List.set_cons_zero, List.set_cons_succ])) | (refine seq_skip rfl ?_ ?_; rfl; (try simp only [Act.put, List.setIfInBounds_toArray, List.set_cons_zero, List.set_cons_succ])))
              refine seq_done ?_
              clear HCT HCF HTF
              go_wp2_with fail
              go_roundw
              case rel => exact ⟨q + 1, v7, by omega, by omega, by go_num, by
                have h := HH7.out
                have h1 : hzsC Y (2 * N) C (q + 1) = D.set j u := by rw [hzsC, HDE.out, HYQ.out, HUE.out, HJ2.out]
                have h2 : hzsL Y (2 * N) C L (q + 1) = K ++ [⟨-1, 1, j, D.getD j 0, u, true⟩] := by rw [hzsL, HKE.out, HDE.out, HYQ.out, HUE.out, HJ2.out]
                show Hold W _ _
                rw [h1, h2]
                exact h⟩
              case measure => simp [intOf]; omega
            · have hql' : ¬ (q : Int) < (len3 : Int) := by omega
              have HQ : Hid (q = min t.toNat len3) := by show _ = _; omega
              have hMf : IsMem W.heap.size wr p c v D K := HH.out.has 0 _ rfl
              have HMF := Lib.hid hMf
              clear hMf
              go_wp2
              go_ret
              exact ⟨p, c, v, rfl, by
                have h := HMF.out.weak (Nat.le_trans HBB.out HB.out.size)
                have h1 : ctlC X Y N M (min N len2) (min t.toNat len3) = D := by unfold ctlC; rw [← HE.out, HCE.out, ← HQ.out, HDE.out]
                have h2 : ctlL X Y N M (min N len2) (min t.toNat len3) = K := by unfold ctlL; rw [← HE.out, HCE.out, HLE.out, ← HQ.out, HKE.out]
                rw [h1, h2]
                exact h, below_step' HB.out HH.out.below HB.out.size, fun q hq => Nat.le_trans HB.out.size (HMF.out.foot q hq).1⟩
          · have hqt' : ¬ (q : Int) < t := by omega
            have HQ : Hid (q = min t.toNat len3) := by show _ = _; omega
            have hMf : IsMem W.heap.size wr p c v D K := HH.out.has 0 _ rfl
            have HMF := Lib.hid hMf
            clear hMf
            go_wp2
            go_ret
            exact ⟨p, c, v, rfl, by
                have h := HMF.out.weak (Nat.le_trans HBB.out HB.out.size)
                have h1 : ctlC X Y N M (min N len2) (min t.toNat len3) = D := by unfold ctlC; rw [← HE.out, HCE.out, ← HQ.out, HDE.out]
                have h2 : ctlL X Y N M (min N len2) (min t.toNat len3) = K := by unfold ctlL; rw [← HE.out, HCE.out, HLE.out, ← HQ.out, HKE.out]
                rw [h1, h2]
                exact h, below_step' HB.out HH.out.below HB.out.size, fun q hq => Nat.le_trans HB.out.size (HMF.out.foot q hq).1⟩
    · have heN' : ¬ e < N := by omega
      have HE : Hid (e = min N len2) := by show _ = _; omega
      obtain ⟨wo, rfl⟩ : ∃ wo : World, wo = wr := ⟨_, rfl⟩
      clear HX
      go_wp2_with fail
      (try clear hel')
      (try clear hel)
      (try clear heN')
      (try clear heN)
      go_loopw [9] (fun i wr => ∃ (q : Nat) (v : Value), (q : Int) ≤ t ∧ q ≤ len3 ∧ i = .int .i64 q ∧ Hid (Hold W wr [tMem W.heap.size p c v (hzsC Y (2 * N) C q) (hzsL Y (2 * N) C L q)])) (fun i _ => t.toNat - (intOf i).toNat)
      case atStart => exact ⟨0, _, by omega, by omega, rfl, HH⟩
      case round =>
        clear HH
        obtain ⟨q, v, hq, hq3, rfl, HH⟩ := hrel
        obtain ⟨D, hD⟩ : ∃ D, hzsC Y (2 * N) C q = D := ⟨_, rfl⟩
        obtain ⟨K, hK⟩ : ∃ K, hzsL Y (2 * N) C L q = K := ⟨_, rfl⟩
        have HDC : Hid (D.length = M) := by show _ = _; rw [← hD, hzsC_len]; exact HC.out
        have HKL : Hid (K.length ≤ e + q) := by show _ ≤ _; rw [← hK, hzsL_len]; have := HL.out; omega
        rw [hD, hK] at HH
        have HDE := Lib.hid hD
        have HKE := Lib.hid hK
        clear hD hK
        obtain ⟨q0, q1, q2, q3⟩ := HA.out.later HH.out.below Hs.out
        rcases Int.lt_or_le (q : Int) t with hqt | hqt
        · rcases Nat.lt_or_ge q len3 with hql | hql
          · obtain ⟨rfl, hcap, hub, hy⟩ := HY q hql
            have hql' : (q : Int) < (len3 : Int) := by omega
            have hwW : Below w.heap.size w wr := below_step' HB.out HH.out.below HB.out.size
            have gy := (hwW.cell (p := ⟨ub, _, none⟩) hub).trans hy
            generalize hy0 : Y q = y at gy
            have HYQ := Lib.hid hy0
            clear hy0
            obtain ⟨u, hu, hue, l5, g5⟩ : ∃ u, bits .and .i64 y 31 = u ∧ y % 32 = u ∧ 0 ≤ u ∧ u ≤ 31 := ⟨y % 32, by rw [show (31 : Int) = ((31 : Nat) : Int) from rfl, and_i64 y 31 5 rfl (by decide)]; rfl, rfl, by omega, by omega⟩
            have hwu : IntKind.u64.wrap u = u := by rw [IntKind.wrap_u64]; omega
            have hM5 : IsMem W.heap.size wr p c v D K := HH.out.has 0 _ rfl
            have hcf : ¬ Foot p c v cb := fun hf => by have := (hM5.foot _ hf).1; have := Hs.out; omega
            have htf : ¬ Foot p c v ub := fun hf => by have := (hM5.foot _ hf).1; have := HB.out.size; omega
            have HCT : Hid (AtCIp cb ub (uff + q) t s so d y wr) := ⟨HA.out.later HH.out.below Hs.out, gy⟩
            obtain ⟨j, hj⟩ : ∃ j : Nat, 2 * (N : Int) + (q : Int) = (j : Int) := ⟨2 * N + q, by omega⟩
            have HJ : Hid (j < D.length) := by have := HDC.out; have := HM.out; show _ < _; omega
            have HJE := Lib.hid hj
            have HUE := Lib.hid hue
            have HJ2 : Hid (j = 2 * N + q) := by show _ = _; omega
            have HCF := Lib.hid hcf
            have HTF := Lib.hid htf
            clear hy hwW hM5 hcf htf hj hue
            go_wp2_with fail
            refine wp_region_seqS ((AtCIp cb ub (uff + q) t s so d y)) ((0, true) :: (1, true) :: (2, true) :: (4, true) :: (5, true) :: (6, true) :: (7, true) :: (8, true) :: (9, true) :: (3, false) :: (10, false) :: []) (by kernel_rfl) (by kernel_rfl) (by kernel_rfl) (by decide) (fun _ _ _ _ _ h => h) ((HCT.out.later (Below.refl _ _).drew)) ?_
            replace HCT := Lib.hid (HCT.out.later (Below.refl _ _).drew)
            replace HH := Lib.hid HH.out.drew
            clear gy q0 q1 q2 q3
            repeat (first | (refine seq_take (v := ?_) rfl ?_ ?_ ?_; rotate_left 1; rfl; (focus (intro wS hSw; obtain ⟨⟨k0, k1, k2, k3⟩, ky⟩ := hSw; go_simp; first | done | with_reducible rfl)); (try simp only [Act.put, List.setIfInBounds_toArray, List.set_cons_zero, List.set_cons_succ])) | (refine seq_skip rfl ?_ ?_; rfl; (try simp only [Act.put, List.setIfInBounds_toArray, List.set_cons_zero, List.set_cons_succ])))
            refine seq_run rfl (fun K hK => ?_)
            go_simp
            go_at_call 48
            refine (chazard_nat4 t s so d N _ j _ hlay (by omega) (by omega) HJE.out).mono ?_
            rintro r w6 ⟨rfl, hb6⟩
            (try go_wp2_with fail)
            replace HCT := Lib.hid (HCT.out.later hb6)
            replace HH := Lib.hid (HH.out.later hb6)
            clear hb6
            refine hK.out _ _ (HCT.out) (fun _ => ?_)
            (try simp only [Act.put, List.setIfInBounds_toArray, List.set_cons_zero, List.set_cons_succ])
            clear hK K
            repeat (first | (refine seq_take (v := ?_) rfl ?_ ?_ ?_; rotate_left 1; rfl; (focus (intro wS hSw; obtain ⟨⟨k0, k1, k2, k3⟩, ky⟩ := hSw; go_simp; first | done | with_reducible rfl)); (try simp only [Act.put, List.setIfInBounds_toArray, List.set_cons_zero, List.set_cons_succ])) | (refine seq_skip rfl ?_ ?_; rfl; (try simp only [Act.put, List.setIfInBounds_toArray, List.set_cons_zero, List.set_cons_succ])))
            refine seq_run rfl (fun K hK => ?_)
            go_simp
            go_at_call 22
            refine (store_in W.heap.size _ p c _ _ _ (-1) j _ u (HH.out.has 0 _ rfl) (getD_at HJ.out) HH.out.size (by have := HKL.out; have := HN2.out; omega) (by omega) (by omega)).mono ?_
            rintro r w7 ⟨rfl, v7, hT7⟩
            (try go_wp2_with fail)
            replace HCT := Lib.hid (HCT.out.keep hT7.keep HCF.out HTF.out)
            have HH7 := Lib.hid (HH.out.mem 0 rfl hT7)
            clear hT7 HH
            refine hK.out _ _ (HCT.out) (fun _ => ?_)
            (try simp only [Act.put, List.setIfInBounds_toArray, List.set_cons_zero, List.set_cons_succ])
            clear hK K
            repeat (first | (refine seq_take (v := ?_) rfl ?_ ?_ ?_; rotate_left 1; rfl; (focus (intro wS hSw; obtain ⟨⟨k0, k1, k2, k3⟩, ky⟩ := hSw; go_simp; first | done | with_reducible rfl)); (try simp only [Act.put, List.setIfInBounds_toArray, List.set_cons_zero, List.set_cons_succ])) | (refine seq_skip rfl ?_ ?_; rfl; (try simp only [Act.put, List.setIfInBounds_toArray, List.set_cons_zero, List.set_cons_succ])))
            refine seq_done ?_
            clear HCT HCF HTF
            go_wp2_with fail
            go_roundw
            case rel => exact ⟨q + 1, v7, by omega, by omega, by go_num, by
                have h := HH7.out
                have h1 : hzsC Y (2 * N) C (q + 1) = D.set j u := by rw [hzsC, HDE.out, HYQ.out, HUE.out, HJ2.out]
                have h2 : hzsL Y (2 * N) C L (q + 1) = K ++ [⟨-1, 1, j, D.getD j 0, u, true⟩] := by rw [hzsL, HKE.out, HDE.out, HYQ.out, HUE.out, HJ2.out]
                show Hold W _ _
                rw [h1, h2]
                exact h⟩
            case measure => simp [intOf]; omega
          · have hql' : ¬ (q : Int) < (len3 : Int) := by omega
            have HQ : Hid (q = min t.toNat len3) := by show _ = _; omega
            have hMf : IsMem W.heap.size wr p c v D K := HH.out.has 0 _ rfl
            have HMF := Lib.hid hMf
            clear hMf
            go_wp2
            go_ret
            exact ⟨p, c, v, rfl, by
                have h := HMF.out.weak (Nat.le_trans HBB.out HB.out.size)
                have h1 : ctlC X Y N M (min N len2) (min t.toNat len3) = D := by unfold ctlC; rw [← HE.out, HCE.out, ← HQ.out, HDE.out]
                have h2 : ctlL X Y N M (min N len2) (min t.toNat len3) = K := by unfold ctlL; rw [← HE.out, HCE.out, HLE.out, ← HQ.out, HKE.out]
                rw [h1, h2]
                exact h, below_step' HB.out HH.out.below HB.out.size, fun q hq => Nat.le_trans HB.out.size (HMF.out.foot q hq).1⟩
        · have hqt' : ¬ (q : Int) < t := by omega
          have HQ : Hid (q = min t.toNat len3) := by show _ = _; omega
          have hMf : IsMem W.heap.size wr p c v D K := HH.out.has 0 _ rfl
          have HMF := Lib.hid hMf
          clear hMf
          go_wp2
          go_ret
          exact ⟨p, c, v, rfl, by
                have h := HMF.out.weak (Nat.le_trans HBB.out HB.out.size)
                have h1 : ctlC X Y N M (min N len2) (min t.toNat len3) = D := by unfold ctlC; rw [← HE.out, HCE.out, ← HQ.out, HDE.out]
                have h2 : ctlL X Y N M (min N len2) (min t.toNat len3) = K := by unfold ctlL; rw [← HE.out, HCE.out, HLE.out, ← HQ.out, HKE.out]
                rw [h1, h2]
                exact h, below_step' HB.out HH.out.below HB.out.size, fun q hq => Nat.le_trans HB.out.size (HMF.out.foot q hq).1⟩

end Go.Proofs.Ytoogdfjlodchhaa
