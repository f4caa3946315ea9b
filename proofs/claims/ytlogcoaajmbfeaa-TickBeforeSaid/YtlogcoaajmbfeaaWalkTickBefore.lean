/-
  TickBefore answers true for all numbers and every list of picks, and leaves all memory that was there as it was. No condition.
-/
import Derived.Test.YtlogcoaajmbfeaaWalkRun
namespace Go.Proofs.Ytlogcoaajmbfeaa
open Go.RowKit
set_option linter.unusedVariables false

theorem row_st {w : World} {base : Nat} {v : Value} {l : List (Int × Int)} (h : w.ownsRow base 35 2 v l.length (flat2 l)) :
    ∃ A cap, v = .slice A l.length cap ∧ (0 < l.length → ∃ g, A = some ⟨g, 0, none⟩ ∧ l.length ≤ cap ∧ g < w.heap.size ∧ ∀ i x y, l[i]? = some (x, y) → w.cell? ⟨g, i * 2, none⟩ = some (i64 x) ∧ w.cell? ⟨g, i * 2 + 1, none⟩ = some (i64 y)) := by
  have h' := h
  rcases h.2 with ⟨rfl, h0⟩ | ⟨g, cap, cur, rfl, _, hh, hcap, _⟩
  · exact ⟨none, 0, by rw [h0], fun h => by omega⟩
  · refine ⟨_, cap, rfl, fun _ => ⟨g, rfl, hcap, (Array.getElem?_eq_some_iff.1 hh).1, fun i x y hi => ?_⟩⟩
    have hl := (List.getElem?_eq_some_iff.1 hi).1
    obtain ⟨f1, f2⟩ := flat2_at l i x y hi
    exact ⟨by rw [h'.cellAt (i * 2) (by omega)]; exact f1, by rw [h'.cellAt (i * 2 + 1) (by omega)]; exact f2⟩
theorem row_in {w : World} {base : Nat} {v : Value} {l : List Int} (h : w.ownsRow base 3 1 v l.length (l.map i64)) :
    ∃ A cap, v = .slice A l.length cap ∧ (0 < l.length → ∃ g, A = some ⟨g, 0, none⟩ ∧ l.length ≤ cap ∧ g < w.heap.size ∧ ∀ i x, l[i]? = some x → w.cell? ⟨g, i, none⟩ = some (i64 x)) := by
  have h' := h
  rcases h.2 with ⟨rfl, h0⟩ | ⟨g, cap, cur, rfl, _, hh, hcap, _⟩
  · exact ⟨none, 0, by rw [h0], fun h => by omega⟩
  · refine ⟨_, cap, rfl, fun _ => ⟨g, rfl, hcap, (Array.getElem?_eq_some_iff.1 hh).1, fun i x hi => ?_⟩⟩
    have hl := (List.getElem?_eq_some_iff.1 hi).1
    rw [h'.cellAt i (by omega), List.getElem?_map, hi]
    rfl

theorem IsRows.later {w w' : World} {ks : List CK} {a0 : Option Addr} {len cap : Nat} (h : IsRows w ks a0 len cap) (e : Below w.heap.size w w') : IsRows w' ks a0 len cap := by
  obtain ⟨h1, h2, h3, h4, h5⟩ := h
  exact ⟨h1, h2, h3, h4, fun b off hx i hi => by
    obtain ⟨cs, hf, hc⟩ := h5 b off hx i hi
    exact ⟨cs, hf, fun j v hj => (e.cell (World.block_lt_of_cell? w _ (hc j v hj))).trans (hc j v hj)⟩⟩

/-- What was made, in the lists that run tells. -/
def Told (w : World) (D : List Dn) (N : Nat) (A1 A2 A3 : Option Addr) (c1 c2 c3 : Nat) : Prop :=
  0 < N → ∃ g1 g2 g3, A1 = some ⟨g1, 0, none⟩ ∧ A2 = some ⟨g2, 0, none⟩ ∧ A3 = some ⟨g3, 0, none⟩ ∧ N ≤ c1 ∧ N ≤ c2 ∧ N ≤ c3 ∧ g1 < w.heap.size ∧ g2 < w.heap.size ∧ g3 < w.heap.size ∧
    ∀ i x, D[i]? = some x → w.cell? ⟨g1, i * 2, none⟩ = some (i64 x.lo) ∧ w.cell? ⟨g1, i * 2 + 1, none⟩ = some (i64 x.hi) ∧ w.cell? ⟨g2, i, none⟩ = some (i64 x.first) ∧ w.cell? ⟨g3, i, none⟩ = some (i64 x.last)

theorem Told.later {w w' : World} {D : List Dn} {N : Nat} {A1 A2 A3 : Option Addr} {c1 c2 c3 : Nat} (h : Told w D N A1 A2 A3 c1 c2 c3) (e : Below w.heap.size w w') : Told w' D N A1 A2 A3 c1 c2 c3 := fun h0 => by
  obtain ⟨g1, g2, g3, x1, x2, x3, x4, x5, x6, x7, x8, x9, hc⟩ := h h0
  have hs := e.size
  refine ⟨g1, g2, g3, x1, x2, x3, x4, x5, x6, by omega, by omega, by omega, fun i x hi => ?_⟩
  obtain ⟨y1, y2, y3, y4⟩ := hc i x hi
  exact ⟨(e.cell (p := ⟨g1, _, none⟩) x7).trans y1, (e.cell (p := ⟨g1, _, none⟩) x7).trans y2, (e.cell (p := ⟨g2, _, none⟩) x8).trans y3, (e.cell (p := ⟨g3, _, none⟩) x9).trans y4⟩

set_option maxRecDepth 100000 in
set_option maxHeartbeats 20000000 in
theorem walk_TickBefore (a0 : Int) (a1 : Int) (a2 : Int) (a3 : Option Addr) (len3 cap3 : Nat) (a4 : Int) (w : World) (w0 : (Lit.int .i64 a0).wf = true) (w1 : (Lit.int .i64 a1).wf = true) (w2 : (Lit.int .i64 a2).wf = true) (w3 : IsRows w [.inl .i64] a3 len3 cap3) (w4 : (Lit.int .i64 a4).wf = true) :
    Calls Try.prog 5 #[.int .i64 a0, .int .i64 a1, .int .i64 a2, .slice a3 len3 cap3, .int .i64 a4] w fun e w' => e = .returned (.bool true) ∧ Below w.heap.size w w' := by
  clear w0 w1 w2 w4
  by_cases hbig : 120 < len3
  · have hbig' : (120 : Int) < (len3 : Int) := by omega
    clear w3
    go_enter Try.func5, Try.ntmps5
    go_wp2_with fail
    refine (head5_any _).mono ?_
    rintro e w1 ⟨rfl, hb1⟩
    go_wp2_with fail
    go_ret
    exact ⟨rfl, hb1⟩
  have p0 : decide ((120 : Int) < (len3 : Int)) = false := decide_eq_false (by omega)
  have W3 := Lib.hid w3
  obtain ⟨u4, hu4, l4, g4⟩ : ∃ u, bits .and .i64 a4 65535 = u ∧ 0 ≤ u ∧ u ≤ 65535 := ⟨_, and_ffff a4, by omega, by omega⟩
  clear w3
  go_enter Try.func5, Try.ntmps5
  go_wp2_with fail
  refine (head5_any _).mono ?_
  rintro e w1 ⟨rfl, hb1⟩
  go_wp2_with fail
  refine (conf_any _ _ _ _).mono ?_
  rintro e w2 ⟨t, so, d, rfl, t1, t2, s0, s4, d0, d3, hb2⟩
  obtain ⟨tn, rfl⟩ : ∃ tn : Nat, t = tn := ⟨t.toNat, by omega⟩
  have hB2 := Lib.hid (below_step hb1 hb2)
  clear hb1 hb2
  go_wp2_with fail
  have hB3 := below_new (Below.refl w2.heap.size w2) (.cells #[.int .i64 tn, .int .i64 1, .int .i64 so, .int .i64 d] 26)
  have HB := Lib.hid (below_step hB2.out hB3)
  clear hB3 hB2
  generalize w2.alloc (.cells #[.int .i64 tn, .int .i64 1, .int .i64 so, .int .i64 d] 26) = W at HB ⊢
  refine (run_any tn so d a3 len3 cap3 u4 W (W3.out.later HB.out) (by omega) t1 t2 s0 s4 d0 d3 l4 g4).mono ?_
  rintro r w5 ⟨D, va, vf, vl, rfl, ra, rf, rl, hb5, hD, hrt, hpd⟩
  have ra' : w5.ownsRow W.heap.size 35 2 va (D.map fun x => (x.lo, x.hi)).length (flat2 (D.map fun x => (x.lo, x.hi))) := by rw [List.length_map]; exact ra
  have rf' : w5.ownsRow W.heap.size 3 1 vf (D.map Dn.first).length ((D.map Dn.first).map i64) := by rw [List.length_map, List.map_map]; exact rf
  have rl' : w5.ownsRow W.heap.size 3 1 vl (D.map Dn.last).length ((D.map Dn.last).map i64) := by rw [List.length_map, List.map_map]; exact rl
  obtain ⟨A1, c1, rfl, k1⟩ := row_st ra'
  obtain ⟨A2, c2, rfl, k2⟩ := row_in rf'
  obtain ⟨A3, c3, rfl, k3⟩ := row_in rl'
  rw [List.length_map] at k1 k2 k3
  rw [List.length_map, List.length_map, List.length_map]
  obtain ⟨N, hN⟩ : ∃ N, D.length = N := ⟨_, rfl⟩
  have hT : Told w5 D N A1 A2 A3 c1 c2 c3 := fun h0 => by
    obtain ⟨g1, rfl, x1, x2, x3⟩ := k1 (by omega)
    obtain ⟨g2, rfl, y1, y2, y3⟩ := k2 (by omega)
    obtain ⟨g3, rfl, z1, z2, z3⟩ := k3 (by omega)
    refine ⟨g1, g2, g3, rfl, rfl, rfl, by omega, by omega, by omega, x2, y2, z2, fun i x hi => ?_⟩
    obtain ⟨h1, h2⟩ := x3 i x.lo x.hi (by rw [List.getElem?_map, hi]; rfl)
    exact ⟨h1, h2, y3 i x.first (by rw [List.getElem?_map, hi]; rfl), z3 i x.last (by rw [List.getElem?_map, hi]; rfl)⟩
  rw [hN] at hD ⊢
  have HN := Lib.hid hN
  have HT := Lib.hid hT
  have HRT := Lib.hid hrt
  have HPD := Lib.hid hpd
  replace HB := Lib.hid (below_step' HB.out hb5 HB.out.size)
  clear ra rf rl ra' rf' rl' k1 k2 k3 hN hT hrt hpd hb5
  go_wp2_with fail
  go_loopw [37] (fun i wr => ∃ n : Nat, n ≤ N ∧ i = .int .i64 n ∧ Hid (Told wr D N A1 A2 A3 c1 c2 c3) ∧ Hid (Below w.heap.size w wr)) (fun i _ => 200 - (intOf i).toNat)
  case atStart => exact ⟨0, by omega, rfl, HT, HB⟩
  case round =>
    clear HT HB
    obtain ⟨n, hn, rfl, hT, hB⟩ := hrel
    rcases Nat.lt_or_ge n N with hlt | hge
    · obtain ⟨x, hx⟩ : ∃ x, D[n]? = some x := ⟨_, List.getElem?_eq_getElem (by have := HN.out; omega)⟩
      obtain ⟨g1, g2, g3, rfl, rfl, rfl, e1, e2, e3, b1, b2, b3, hc⟩ := hT.out (by omega)
      obtain ⟨y1, y2, y3, y4⟩ := hc n x hx
      have hr := HRT.out x (List.mem_of_getElem? hx)
      have hrb : rightB x.lo x.hi = true := by simp only [rightB, decide_eq_true_eq]; exact hr
      have HX := Lib.hid hx
      have HR := fun W => right_any x.lo x.hi W
      rw [hrb] at HR
      replace HR := Lib.hid HR
      clear hc hr hrb hx
      go_wp2_with fail
      refine (HR.out _).mono ?_
      rintro r w6 ⟨rfl, hb6⟩
      have hT6 := Lib.hid (hT.out.later hb6)
      have hB6 := Lib.hid (below_step' hB.out hb6 hB.out.size)
      clear hb6 y1 y2 y3 y4 hT hB b1 b2 b3
      go_wp2_with fail
      go_loopw [48] (fun i wr => ∃ m : Nat, m ≤ N ∧ i = .int .i64 m ∧ Hid (Told wr D N (some ⟨g1, 0, none⟩) (some ⟨g2, 0, none⟩) (some ⟨g3, 0, none⟩) c1 c2 c3) ∧ Hid (Below w.heap.size w wr)) (fun i _ => 200 - (intOf i).toNat)
      case atStart => exact ⟨0, by omega, rfl, hT6, hB6⟩
      case round =>
        clear hT6 hB6
        obtain ⟨m, hm, rfl, hT, hB⟩ := hrel
        rcases Nat.lt_or_ge m N with hlt2 | hge2
        · obtain ⟨y, hy⟩ : ∃ y, D[m]? = some y := ⟨_, List.getElem?_eq_getElem (by have := HN.out; omega)⟩
          obtain ⟨f1, f2, f3, q1, q2, q3, e1', e2', e3', b1, b2, b3, hc⟩ := hT.out (by omega)
          cases q1
          cases q2
          cases q3
          obtain ⟨y1, y2, y3, y4⟩ := hc n x HX.out
          obtain ⟨z1, z2, z3, z4⟩ := hc m y hy
          by_cases hl : x.last < y.first
          · have hlt3 := HPD.out x (List.mem_of_getElem? HX.out) y (List.mem_of_getElem? hy) hl
            have hd : decide (x.hi < y.lo) = true := decide_eq_true hlt3
            have HD := Lib.hid hd
            have HBe := fun W => before_any x.lo x.hi y.lo y.hi W
            rw [hd] at HBe
            replace HBe := Lib.hid HBe
            clear hc hy hd hlt3
            go_wp2_with fail
            refine wp_region_seq ((0, true) :: (1, true) :: (2, true) :: (3, true) :: (4, true) :: (5, true) :: (6, true) :: (7, true) :: (8, true) :: (9, true) :: (10, true) :: (11, true) :: (12, true) :: (13, true) :: (14, true) :: (15, true) :: (16, true) :: (17, true) :: (18, false) :: (19, true) :: (20, true) :: []) (by kernel_rfl) (by kernel_rfl) (by kernel_rfl) (by decide) (fun _ _ _ _ _ h => h) (fun hHeld => ?_)
            repeat (first
              | (refine seq_take (v := ?_) rfl ?_ ?_ ?_; rotate_left 1; rfl; (focus (intro wS hSw; have hk := below_rule hSw; go_simp; first | done | with_reducible rfl)); (try simp only [Act.put, List.setIfInBounds_toArray, List.set_cons_zero, List.set_cons_succ]))
              | (refine seq_skip rfl ?_ ?_; rfl; (try simp only [Act.put, List.setIfInBounds_toArray, List.set_cons_zero, List.set_cons_succ]))
              | (refine seq_run rfl (fun K hK => ?_); go_simp; (try (first | (go_at_call 24; refine (HBe.out _).mono ?_; rintro e w' ⟨rfl, hb'⟩))); (try go_wp2_with fail); refine hK.out _ _ ?_ ?_; (focus (first | exact below_step hHeld hb' | exact below_new hHeld _ | exact hHeld)); (try clear hb'); clear hHeld hK K; intro hHeld; (try simp only [Act.put, List.setIfInBounds_toArray, List.set_cons_zero, List.set_cons_succ])))
            first | refine seq_done ?_ | skip
            have hT7 := Lib.hid (hT.out.later hHeld)
            have hB7 := Lib.hid (below_step' hB.out hHeld hB.out.size)
            clear hHeld y1 y2 y3 y4 z1 z2 z3 z4
            go_wp2_with fail
            go_roundw
            case rel => exact ⟨m + 1, by omega, by go_num, hT7, hB7⟩
            case measure => simp [intOf]; omega
          · have hlf : decide (x.last < y.first) = false := decide_eq_false hl
            clear hc hy
            go_wp2_with fail
            refine wp_region_seq ((0, true) :: (1, true) :: (2, true) :: (3, true) :: (4, true) :: (5, true) :: (6, true) :: (7, true) :: (8, true) :: (9, true) :: (10, true) :: (11, true) :: (12, true) :: (13, true) :: (14, true) :: (15, true) :: (16, true) :: (17, true) :: (18, false) :: (19, true) :: (20, true) :: []) (by kernel_rfl) (by kernel_rfl) (by kernel_rfl) (by decide) (fun _ _ _ _ _ h => h) (fun hHeld => ?_)
            repeat (first
              | (refine seq_take (v := ?_) rfl ?_ ?_ ?_; rotate_left 1; rfl; (focus (intro wS hSw; have hk := below_rule hSw; go_simp; first | done | with_reducible rfl)); (try simp only [Act.put, List.setIfInBounds_toArray, List.set_cons_zero, List.set_cons_succ]))
              | (refine seq_skip rfl ?_ ?_; rfl; (try simp only [Act.put, List.setIfInBounds_toArray, List.set_cons_zero, List.set_cons_succ]))
              | (refine seq_run rfl (fun K hK => ?_); go_simp; (try (first | (go_at_call 24; refine (before_any _ _ _ _ _).mono ?_; rintro e w' ⟨rfl, hb'⟩))); (try go_wp2_with fail); refine hK.out _ _ ?_ ?_; (focus (first | exact below_step hHeld hb' | exact below_new hHeld _ | exact hHeld)); (try clear hb'); clear hHeld hK K; intro hHeld; (try simp only [Act.put, List.setIfInBounds_toArray, List.set_cons_zero, List.set_cons_succ])))
            first | refine seq_done ?_ | skip
            have hT7 := Lib.hid (hT.out.later hHeld)
            have hB7 := Lib.hid (below_step' hB.out hHeld hB.out.size)
            clear hHeld y1 y2 y3 y4 z1 z2 z3 z4
            go_wp2_with fail
            go_roundw
            case rel => exact ⟨m + 1, by omega, by go_num, hT7, hB7⟩
            case measure => simp [intOf]; omega
        · go_wp2_with fail
          exact ⟨⟨n + 1, by omega, by go_num, hT, hB⟩, by simp [intOf]; omega⟩
    · obtain rfl : n = N := by omega
      go_wp2
      go_ret
      exact ⟨rfl, hB.out⟩

end Go.Proofs.Ytlogcoaajmbfeaa
