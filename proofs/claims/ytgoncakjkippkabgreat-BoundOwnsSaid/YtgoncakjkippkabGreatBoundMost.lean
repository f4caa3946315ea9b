/-
  The contracts of bound's numbers, of any layout; the laws' head. No condition but that turns are no more than a million.
-/
import Derived.Test.YtgoncakjkippkabGreatAMem
import Derived.Test.YtgoncakjkippkabGreatAKit
namespace Go.Proofs.YtgoncakjkippkabGreat
open Go.RowKit
set_option linter.unusedVariables false

/-- How many steps a stamp takes at most. -/
def bM (t so d : Int) : Int := if so = 0 then 1 else if so = 1 then t + 1 else if so = 2 then 4 else if so = 3 then 1 else d + 2
/-- The numbers of a layout. -/
structure BN (t s so d : Int) (N Q : Nat) : Prop where
  lay : Lay t s N
  d0 : 0 ≤ d
  d1 : d ≤ 100
  o0 : 0 ≤ so
  o1 : so ≤ 4
  q : s * (t + 1) + bM t so d + 2 = (Q : Int)
  qN : s * (t + 1) = (N : Int) + s
theorem BN.mk' {t s so d : Int} (t1 : 1 ≤ t) (t2 : t ≤ 64) (s1 : 1 ≤ s) (s2 : s ≤ 64) (d0 : 0 ≤ d) (d1 : d ≤ 100) (o0 : 0 ≤ so) (o1 : so ≤ 4) : ∃ N Q : Nat, BN t s so d N Q := by
  have hl := Lay.mk' t1 t2 s1 s2
  have hn := hl.n1
  have hm : 0 ≤ bM t so d := by
    unfold bM
    repeat' split
    all_goals omega
  have e : s * (t + 1) = t * s + s := by rw [Int.mul_add, Int.mul_one, Int.mul_comm]
  exact ⟨(t * s).toNat, (s * (t + 1) + bM t so d + 2).toNat, by rw [Int.toNat_of_nonneg (by omega)]; exact hl, d0, d1, o0, o1, by omega, by omega⟩
section
variable {t s so d : Int} {N Q : Nat}
theorem BN.bd (h : BN t s so d N Q) : 1 ≤ t ∧ t ≤ 64 ∧ 1 ≤ s ∧ s ≤ 64 ∧ 1 ≤ N ∧ N ≤ 4096 ∧ Q ≤ 4300 ∧ 1 ≤ bM t so d ∧ bM t so d ≤ 102 ∧ 3 ≤ Q := by
  have h1 := h.lay.t1; have h2 := h.lay.t2; have h3 := h.lay.s1; have h4 := h.lay.s2; have h5 := h.lay.n1; have h6 := h.lay.n2; have h7 := h.d0; have h8 := h.d1; have h9 := h.q; have h10 := h.qN
  have hm : 1 ≤ bM t so d ∧ bM t so d ≤ 102 := by
    unfold bM
    repeat' split
    all_goals omega
  omega

set_option maxHeartbeats 1000000 in
theorem btick_any (h : BN t s so d N Q) (w : World) : Calls Tryz.prog 48 #[cf t s so d] w fun r w' => r = .returned (i64 (bM t so d)) ∧ Below w.heap.size w w' := by
  have o0 := h.o0; have o1 := h.o1; have b := h.bd; have t1 := h.lay.t1; have t2 := h.lay.t2; have d0 := h.d0; have d1 := h.d1
  clear h b
  rcases (by omega : so = 0 ∨ so = 1 ∨ so = 2 ∨ so = 3 ∨ so = 4) with rfl | rfl | rfl | rfl | rfl
  all_goals
    go_enter Tryz.func48, Tryz.ntmps48
    go_wp2
    go_ret
    exact ⟨rfl, below_new (Below.refl _ _) _⟩
set_option maxHeartbeats 1000000 in
theorem bclaim_any (h : BN t s so d N Q) (q : Int) (hq : s * (t + 1) = q) (w : World) :
    Calls Tryz.prog 47 #[cf t s so d] w fun r w' => r = .returned (i64 q) ∧ Below w.heap.size w w' := by
  have b := h.bd
  have hw : wrap64 (s * (t + 1)) = q := by rw [hq]; have := h.qN; unfold wrap64; omega
  have Hw := Lib.hid hw
  have t1 := h.lay.t1; have t2 := h.lay.t2
  clear hw hq h b
  go_enter Tryz.func47, Tryz.ntmps47
  go_wp2
  go_ret
  exact ⟨ret_i64 Hw.out, below_new (Below.refl _ _) _⟩
set_option maxHeartbeats 2000000 in
theorem bpm_any (h : BN t s so d N Q) (w : World) :
    Calls Tryz.prog 33 #[cf t s so d] w fun r w' => r = .returned (i64 Q) ∧ Below w.heap.size w w' := by
  obtain ⟨q, hq⟩ : ∃ q, s * (t + 1) = q := ⟨_, rfl⟩
  obtain ⟨z, hz⟩ : ∃ z, bM t so d = z := ⟨_, rfl⟩
  have b := h.bd
  have hQ := h.q
  have hqN := h.qN
  rw [hz] at b hQ
  rw [hq] at hQ hqN
  have e2 : IntKind.i64.wrap (IntKind.i64.wrap (q + z) + 2) = (Q : Int) := by have a := IntWalk.i64_in (q + z) (by omega); rw [a, IntWalk.i64_in _ (by omega)]; omega
  have E2 := Lib.hid e2
  have HC := Lib.hid (fun W => bclaim_any h q hq W)
  have hm := fun W => btick_any h W
  rw [hz] at hm
  have HM := Lib.hid hm
  clear hm e2 hQ hqN b hq hz h
  go_enter Tryz.func33, Tryz.ntmps33
  go_wp2_with fail
  refine wp_region_seq ((0, true) :: (2, true) :: (1, false) :: (3, false) :: (4, true) :: (5, true) :: (6, true) :: []) (by kernel_rfl) (by kernel_rfl) (by kernel_rfl) (by decide) (fun _ _ _ _ _ h => h) (fun hHeld => ?_)
  repeat (first
    | (refine seq_take (v := ?_) rfl ?_ ?_ ?_; rotate_left 1; rfl; (focus (intro wS hSw; have hk := below_rule hSw; go_simp; first | done | with_reducible rfl)); (try simp only [Act.put, List.setIfInBounds_toArray, List.set_cons_zero, List.set_cons_succ]))
    | (refine seq_skip rfl ?_ ?_; rfl; (try simp only [Act.put, List.setIfInBounds_toArray, List.set_cons_zero, List.set_cons_succ]))
    | (refine seq_run rfl (fun K hK => ?_); go_simp; (try (first | (go_at_call 47; refine (HC.out _).mono ?_; rintro e w' ⟨rfl, hb'⟩) | (go_at_call 48; refine (HM.out _).mono ?_; rintro e w' ⟨rfl, hb'⟩))); (try go_wp2_with fail); refine hK.out _ _ ?_ ?_; (focus (first | exact below_step hHeld hb' | exact below_new hHeld _ | exact hHeld)); (try clear hb'); clear hHeld hK K; intro hHeld; (try simp only [Act.put, List.setIfInBounds_toArray, List.set_cons_zero, List.set_cons_succ])))
  first | refine seq_done ?_ | skip
  go_wp2
  go_ret
  exact ⟨ret_i64 E2.out, below_step (below_new (Below.refl _ _) _) hHeld⟩
theorem bput_any (h : BN t s so d N Q) (w : World) :
    Calls Tryz.prog 18 #[cf t s so d] w fun r w' => r = .returned (i64 Q) ∧ Below w.heap.size w w' := by
  go_enter Tryz.func18, Tryz.ntmps18
  go_wp2_with fail
  refine (bpm_any h _).mono ?_
  rintro r w1 ⟨rfl, hb⟩
  have HB := Lib.hid (below_step (below_new (Below.refl _ _) _) hb)
  clear hb
  go_wp2_with fail
  go_ret
  exact ⟨rfl, HB.out⟩
set_option maxHeartbeats 1000000 in
theorem bget_nat (h : BN t s so d N Q) (m G : Nat) (hm2 : m ≤ 1000000) (hG : (m + 1) * (4 * N + 10) = G) (w : World) :
    Calls Tryz.prog 17 #[cf t s so d, .int .i64 m] w fun r w' => r = .returned (i64 G) ∧ Below w.heap.size w w' := by
  have b := h.bd
  have hG2 : G ≤ 1000001 * 16394 := by rw [← hG]; exact Nat.mul_le_mul (by omega) (by omega)
  have e0 : ((m : Int) + 1) * (4 * (N : Int) + 10) = (G : Int) := by rw [← hG]; push_cast; rfl
  have e1 : wrap64 (((m : Int) + 1) * (4 * (N : Int) + 10)) = (G : Int) := by
    rw [e0]
    unfold wrap64
    omega
  have E1 := Lib.hid e1
  have HC := Lib.hid (fun W => call_any t s so d N W h.lay)
  have hN : N ≤ 4096 := by omega
  clear hG hG2 h e1 e0 b
  go_enter Tryz.func17, Tryz.ntmps17
  go_wp2_with fail
  refine (HC.out _).mono ?_
  rintro r w1 ⟨rfl, hb⟩
  have HB := Lib.hid (below_step (below_new (Below.refl _ _) _) hb)
  clear hb
  go_wp2_with fail
  go_ret
  exact ⟨ret_i64 E1.out, HB.out⟩
set_option maxHeartbeats 1000000 in
theorem bget_neg (h : BN t s so d N Q) (k : Int) (hk : k < 0) (w : World) :
    Calls Tryz.prog 17 #[cf t s so d, .int .i64 k] w fun r w' => r = .returned (i64 (4 * (N : Int) + 10)) ∧ Below w.heap.size w w' := by
  have b := h.bd
  have HC := Lib.hid (fun W => call_any t s so d N W h.lay)
  have hN : N ≤ 4096 := by omega
  have hk0 : ¬ 0 ≤ k := by omega
  clear h b
  go_enter Tryz.func17, Tryz.ntmps17
  go_wp2_with fail
  all_goals
    refine (HC.out _).mono ?_
    rintro r w1 ⟨rfl, hb⟩
    have HB := Lib.hid (below_step (below_new (Below.refl _ _) _) hb)
    clear hb
    go_wp2_with fail
    go_ret
    exact ⟨by first | rfl | (refine ret_i64 ?_; unfold wrap64; omega), HB.out⟩
/-- The greater one of a put's and a get's. -/
def bL (N Q T : Nat) : Nat := max Q ((T + 1) * (4 * N + 10))
theorem bL_le {t s so d : Int} {N Q T : Nat} (h : BN t s so d N Q) (hT : t = (T : Int)) : bL N Q T ≤ 65 * 16394 := by
  have b := h.bd
  have h1 : (T + 1) * (4 * N + 10) ≤ 65 * 16394 := Nat.mul_le_mul (by omega) (by omega)
  unfold bL
  omega
set_option maxHeartbeats 2000000 in
theorem bwin_any (h : BN t s so d N Q) (T W' : Nat) (hT : t = (T : Int)) (hW : T * bL N Q T + 1 = W') (w : World) :
    Calls Tryz.prog 9 #[cf t s so d] w fun r w' => r = .returned (i64 W') ∧ Below w.heap.size w w' := by
  have b := h.bd
  have hb := bL_le h hT
  subst hT
  obtain ⟨G, hG⟩ : ∃ G, (T + 1) * (4 * N + 10) = G := ⟨_, rfl⟩
  have HP := Lib.hid (fun W => bput_any h W)
  have HGT := Lib.hid (fun W => bget_nat h T G (by omega) hG W)
  unfold bL at hW hb
  rw [hG] at hW hb
  have h64 : T * max Q G ≤ 64 * (65 * 16394) := Nat.mul_le_mul (by omega) hb
  obtain ⟨P, hP⟩ : ∃ P, T * max Q G = P := ⟨_, rfl⟩
  rw [hP] at h64 hW
  have E1 := Lib.hid (fun (hh : Q ≤ G) => show IntKind.i64.wrap ((T : Int) * (G : Int)) = (P : Int) from by rw [show (T : Int) * (G : Int) = (P : Int) from by rw [← hP, Nat.max_eq_right hh]; push_cast; rfl]; exact IntWalk.i64_in _ (by omega))
  have E2 := Lib.hid (fun (hh : G ≤ Q) => show IntKind.i64.wrap ((T : Int) * (Q : Int)) = (P : Int) from by rw [show (T : Int) * (Q : Int) = (P : Int) from by rw [← hP, Nat.max_eq_left hh]; push_cast; rfl]; exact IntWalk.i64_in _ (by omega))
  have E3 : Hid (IntKind.i64.wrap ((P : Int) + 1) = (W' : Int)) := by show _ = _; rw [IntWalk.i64_in _ (by omega)]; omega
  clear hG h hP b hb h64 hW
  go_enter Tryz.func9, Tryz.ntmps9
  go_wp2_with fail
  refine wp_region_seq ((0, true) :: (1, true) :: (2, true) :: (4, true) :: (5, true) :: (6, true) :: (3, false) :: (7, false) :: (8, true) :: (9, true) :: (10, true) :: (11, true) :: []) (by kernel_rfl) (by kernel_rfl) (by kernel_rfl) (by decide) (fun _ _ _ _ _ h => h) (fun hHeld => ?_)
  repeat (first
    | (refine seq_take (v := ?_) rfl ?_ ?_ ?_; rotate_left 1; rfl; (focus (intro wS hSw; have hk := below_rule hSw; go_simp; first | done | with_reducible rfl)); (try simp only [Act.put, List.setIfInBounds_toArray, List.set_cons_zero, List.set_cons_succ]))
    | (refine seq_skip rfl ?_ ?_; rfl; (try simp only [Act.put, List.setIfInBounds_toArray, List.set_cons_zero, List.set_cons_succ]))
    | (refine seq_run rfl (fun K hK => ?_); go_simp; (try (first | (go_at_call 18; refine (HP.out _).mono ?_; rintro e w' ⟨rfl, hb'⟩) | (go_at_call 17; refine (HGT.out _).mono ?_; rintro e w' ⟨rfl, hb'⟩))); (try go_wp2_with fail); refine hK.out _ _ ?_ ?_; (focus (first | exact below_step hHeld hb' | exact below_new hHeld _ | exact hHeld)); (try clear hb'); clear hHeld hK K; intro hHeld; (try simp only [Act.put, List.setIfInBounds_toArray, List.set_cons_zero, List.set_cons_succ])))
  first | refine seq_done ?_ | skip
  all_goals
    have HB := Lib.hid (below_step (below_new (Below.refl _ _) _) hHeld)
    clear hHeld
    go_wp2_with fail
    all_goals
      go_ret
      exact ⟨ret_i64 (by first | (rw [E1.out (by omega)]; exact E3.out) | (rw [E2.out (by omega)]; exact E3.out)), HB.out⟩
end

/-- Numbers that can be read. -/
def IsI (w : World) (a : Option Addr) (E : List Int) : Prop :=
  0 < E.length → ∃ g off, a = some ⟨g, off, none⟩ ∧ g < w.heap.size ∧ ∀ i, i < E.length → w.cell? ⟨g, off + i, none⟩ = some (i64 (E.getD i 0))
theorem IsI.later {w w' : World} {a : Option Addr} {R : List Int} (h : IsI w a R) (e : Below w.heap.size w w') : IsI w' a R := fun hp => by
  obtain ⟨g, off, h1, h2, h3⟩ := h hp
  exact ⟨g, off, h1, Nat.lt_of_lt_of_le h2 e.size, fun i hi => (e.cell (p := ⟨g, off + i, none⟩) h2).trans (h3 i hi)⟩
/-- The greatest gap so far, of a last end and the ends behind it. -/
def gGo : Int → Int → List Int → Int × Int
  | l, g, [] => (l, g)
  | l, g, e :: E => gGo e (max g (e - l)) E
theorem gGo_snoc (x : Int) : ∀ (E : List Int) (l g : Int), gGo l g (E ++ [x]) = (x, max (gGo l g E).2 (x - (gGo l g E).1))
  | [], l, g => rfl
  | e :: E, l, g => by rw [List.cons_append, gGo, gGo, gGo_snoc x E]
def gapsV (E : List Int) (all : Int) : Int := max (gGo (-1) (-9223372036854775808) E).2 (all - 1 - (gGo (-1) (-9223372036854775808) E).1)
theorem gGo_bd {B : Int} (hB : 0 ≤ B) : ∀ (E : List Int) (l g : Int), (∀ e ∈ E, -B ≤ e ∧ e ≤ B) → -B - 1 ≤ l → l ≤ B → -9223372036854775808 ≤ g → g ≤ 2 * B + 1 → (-B - 1 ≤ (gGo l g E).1 ∧ (gGo l g E).1 ≤ B ∧ -9223372036854775808 ≤ (gGo l g E).2 ∧ (gGo l g E).2 ≤ 2 * B + 1)
  | [], l, g, _, h1, h2, h3, h4 => ⟨h1, h2, h3, h4⟩
  | e :: E, l, g, h, h1, h2, h3, h4 => by
    have he := h e List.mem_cons_self
    rw [gGo]
    exact gGo_bd hB E e _ (fun x hx => h x (List.mem_cons_of_mem _ hx)) (by omega) he.2 (by omega) (by omega)

set_option maxHeartbeats 2000000 in
theorem bgaps_any (w : World) (a : Option Addr) (cap : Nat) (E : List Int) (all : Int) (h : IsI w a E) (hc : E.length ≤ cap) (hn : E.length ≤ 1000000) (hE : ∀ e ∈ E, -1000000000 ≤ e ∧ e ≤ 1000000000) (ha : 0 ≤ all ∧ all ≤ 1000000000) :
    Calls Tryz.prog 8 #[.slice a E.length cap, .int .i64 all] w fun r w' => r = .returned (i64 (gapsV E all)) ∧ Below w.heap.size w w' := by
  have HI := Lib.hid h
  have HE := Lib.hid hE
  clear h hE
  obtain ⟨n, hn2⟩ : ∃ n, E.length = n := ⟨_, rfl⟩
  have HN := Lib.hid hn2
  rw [hn2] at hc hn ⊢
  clear hn2
  go_enter Tryz.func8, Tryz.ntmps8
  go_wp2_with fail
  have HB0 := Lib.hid (Below.refl w.heap.size w)
  go_loopw [5, 6, 11] (fun lv gv iw wr => ∃ (i : Nat) (l g : Int), i ≤ n ∧ lv = .int .i64 l ∧ gv = .int .i64 g ∧ iw = .int .i64 i ∧ Hid (Below w.heap.size w wr) ∧ Hid (gGo (-1) (-9223372036854775808) (E.take i) = (l, g))) (fun _ _ iw _ => n - (RowKit.intOf iw).toNat)
  case atStart => exact ⟨0, -1, -9223372036854775808, Nat.zero_le _, rfl, rfl, rfl, HB0, by rw [List.take_zero]; rfl⟩
  case round =>
    clear HB0
    obtain ⟨i, l, g, hi, rfl, rfl, rfl, HB, HG⟩ := hrel
    have hbd := gGo_bd (B := 1000000000) (by decide) (E.take i) (-1) (-9223372036854775808) (fun e he => HE.out e (List.mem_of_mem_take he)) (by decide) (by decide) (by decide) (by decide)
    rw [HG.out] at hbd
    obtain ⟨b1, b2, b3, b4⟩ := hbd
    simp only at b1 b2 b3 b4
    rcases Nat.lt_or_ge i n with hil | hil
    · have hil' : (i : Int) < (n : Int) := by omega
      obtain ⟨gb, off, rfl, hgb, hcell⟩ := HI.out (by rw [HN.out]; omega)
      have c0 := (HB.out.cell (p := ⟨gb, off + i, none⟩) hgb).trans (hcell i (by rw [HN.out]; exact hil))
      have hd : E[i]? = some (E.getD i 0) := by rw [List.getD_eq_getElem?_getD, List.getElem?_eq_getElem (by rw [HN.out]; exact hil)]; rfl
      have he := HE.out _ (List.mem_of_getElem? hd)
      have HT : Hid (gGo (-1) (-9223372036854775808) (E.take (i + 1)) = (E.getD i 0, max g (E.getD i 0 - l))) := by
        show _ = _
        rw [List.take_add_one, hd]
        show gGo _ _ (E.take i ++ [E.getD i 0]) = _
        rw [gGo_snoc, HG.out]
      clear hd hcell
      generalize E.getD i 0 = x at c0 he HT
      have hw : IntKind.i64.wrap (x - l) = x - l := IntWalk.i64_in _ (by omega)
      go_wp2_with fail
      all_goals
        go_roundw
        case rel => exact ⟨i + 1, x, _, by omega, rfl, rfl, by go_num, HB, HT.out.trans (by congr 1; omega)⟩
        case measure => first | omega | (simp [RowKit.intOf]; done) | (simp [RowKit.intOf]; omega)
    · obtain rfl : i = n := by omega
      have hnl : ¬ (i : Int) < (i : Int) := by omega
      have hG := HG.out
      rw [List.take_of_length_le (by rw [HN.out]; exact Nat.le_refl _)] at hG
      have HV : Hid (gapsV E all = max g (all - 1 - l)) := by show _ = _; unfold gapsV; rw [hG]
      clear hG HG
      go_wp2_with fail
      all_goals
        go_ret
        refine ⟨ret_i64 ?_, HB.out⟩
        rw [HV.out]
        omega
end Go.Proofs.YtgoncakjkippkabGreat
