/-
  BoundGaps answers true for all lists of gaps and rests, and leaves all memory that was there as it was. No condition.
-/
import Derived.Test.YtgoncakjkippkabBoundHead
import Derived.Test.YtgoncakjkippkabFlat
import Derived.Test.YtgoncakjkippkabRows2
namespace Go.Proofs.Ytgoncakjkippkab
open Go.RowKit
set_option linter.unusedVariables false

/-- Numbers as they came in. -/
theorem rows_isI {w : World} {a0 : Option Addr} {len cap : Nat} (h : IsRows w [.inl .i64] a0 len cap) : ∃ E : List Int, E.length = len ∧ len ≤ cap ∧ IsI w a0 E := by
  obtain ⟨h1, h2, h3, h4, h5⟩ := h
  rcases Nat.eq_zero_or_pos len with h0 | hl
  · exact ⟨[], by rw [h0]; rfl, h1, fun h => absurd h (by simp)⟩
  obtain ⟨b, off, rfl⟩ := h4 hl
  have hx : ∀ i, ∃ x : Int, i < len → w.cell? ⟨b, off + i, none⟩ = some (i64 x) := by
    intro i
    by_cases hi : i < len
    · obtain ⟨cs, hf, hc⟩ := h5 b off rfl i hi
      obtain ⟨c0, l0, rfl, r0, f0⟩ := fit_cons hf
      obtain ⟨x0, rfl, g0⟩ := r0
      have := hc 0 _ rfl
      simp only [List.length_cons, List.length_nil, Nat.zero_add, Nat.mul_one, Nat.add_zero] at this
      exact ⟨x0, fun _ => this⟩
    · exact ⟨0, fun h => absurd h hi⟩
  obtain ⟨X, hX⟩ := Classical.axiomOfChoice hx
  refine ⟨(List.range len).map X, by simp, h1, fun _ => ⟨b, off, rfl, World.block_lt_of_cell? w _ (hX 0 hl), fun i hi => ?_⟩⟩
  rw [List.length_map, List.length_range] at hi
  rw [List.getD_eq_getElem?_getD, List.getElem?_map, List.getElem?_range hi]
  exact hX i hi
/-- A gap, of any number. -/
def gG (x : Int) : Int := 1 + bits .and .i64 x 65535
theorem gG_bd (x : Int) : 1 ≤ gG x ∧ gG x ≤ 65536 := by
  unfold gG
  rw [show (65535 : Int) = ((65535 : Nat) : Int) from rfl, and_i64 x 65535 16 rfl (by decide)]
  show 1 ≤ 1 + x % 65536 ∧ 1 + x % 65536 ≤ 65536
  omega
/-- The ends, behind a place. -/
def gE : Int → List Int → List Int
  | _, [] => []
  | a, g :: l => (a + gG g) :: gE (a + gG g) l
def gAt : Int → List Int → Int
  | a, [] => a
  | a, g :: l => gAt (a + gG g) l
def gMo : Int → List Int → Int
  | m, [] => m
  | m, g :: l => gMo (max m (gG g)) l
theorem gE_snoc (x : Int) : ∀ (l : List Int) (a : Int), gE a (l ++ [x]) = gE a l ++ [gAt a l + gG x]
  | [], a => rfl
  | g :: l, a => by rw [List.cons_append, gE, gE, gE_snoc x l]; rfl
theorem gAt_snoc (x : Int) : ∀ (l : List Int) (a : Int), gAt a (l ++ [x]) = gAt a l + gG x
  | [], a => rfl
  | g :: l, a => by rw [List.cons_append, gAt, gAt, gAt_snoc x l]
theorem gMo_snoc (x : Int) : ∀ (l : List Int) (m : Int), gMo m (l ++ [x]) = max (gMo m l) (gG x)
  | [], m => rfl
  | g :: l, m => by rw [List.cons_append, gMo, gMo, gMo_snoc x l]
theorem gE_len : ∀ (l : List Int) (a : Int), (gE a l).length = l.length
  | [], a => rfl
  | g :: l, a => by rw [gE, List.length_cons, gE_len l, List.length_cons]
theorem gAt_bd : ∀ (l : List Int) (a : Int), a ≤ gAt a l ∧ gAt a l ≤ a + l.length * 65536
  | [], a => by rw [gAt]; simp
  | g :: l, a => by
    have h := gAt_bd l (a + gG g)
    have := gG_bd g
    rw [gAt, List.length_cons]
    push_cast
    omega
theorem gE_bd : ∀ (l : List Int) (a : Int), -1 ≤ a → ∀ e ∈ gE a l, -1 ≤ e ∧ e ≤ a + l.length * 65536
  | [], a, _, e, h => by cases h
  | g :: l, a, ha, e, h => by
    have hb := gG_bd g
    rw [gE] at h
    rw [List.length_cons]
    push_cast
    rcases List.mem_cons.1 h with rfl | h
    · omega
    · have := gE_bd l (a + gG g) (by omega) e h
      omega
theorem gGo_ge : ∀ (E : List Int) (a g : Int), g ≤ (gGo a g E).2
  | [], a, g => Int.le_refl _
  | e :: E, a, g => by
    rw [gGo]
    exact Int.le_trans (Int.le_max_left _ _) (gGo_ge E e _)
theorem gMo_ge : ∀ (l : List Int) (m : Int), m ≤ gMo m l
  | [], m => Int.le_refl _
  | g :: l, m => by
    rw [gMo]
    exact Int.le_trans (Int.le_max_left _ _) (gMo_ge l _)
/-- What Gaps tells of them. -/
theorem gap_go : ∀ (l : List Int) (a g m : Int), (gGo a g (gE a l)).1 = gAt a l ∧ max m (gGo a g (gE a l)).2 = max (gMo m l) g
  | [], a, g, m => ⟨rfl, rfl⟩
  | x :: l, a, g, m => by
    rw [gE, gGo, gAt, gMo, show a + gG x - a = gG x by omega]
    obtain ⟨h1, h2⟩ := gap_go l (a + gG x) (max g (gG x)) (max m (gG x))
    have h3 := gGo_ge (gE (a + gG x) l) (a + gG x) (max g (gG x))
    have h4 := gMo_ge l (max m (gG x))
    refine ⟨h1, ?_⟩
    generalize (gGo (a + gG x) (max g (gG x)) (gE (a + gG x) l)).2 = r at h2 h3 ⊢
    generalize gMo (max m (gG x)) l = u at h2 h4 ⊢
    generalize gG x = y at h2 h3 h4
    omega
theorem gap_all (l : List Int) (rest : Int) (h0 : 0 ≤ rest) : gapsV (gE (-1) l) (gAt (-1) l + 1 + rest) = gMo rest l := by
  unfold gapsV
  obtain ⟨h1, h4⟩ := gap_go l (-1) (-9223372036854775808) rest
  have h5 := gMo_ge l rest
  rw [h1, show gAt (-1) l + 1 + rest - 1 - gAt (-1) l = rest by omega, Int.max_comm, h4]
  omega

theorem isI_own {w : World} {base n cap : Nat} {A : Option Addr} {E : List Int} (h : w.ownsRow base 3 1 (.slice A n cap) n (E.map i64)) : IsI w A E ∧ E.length = n ∧ n ≤ cap := by
  have hl := h.1
  rw [List.length_map, Nat.mul_one] at hl
  refine ⟨fun hp => ?_, hl, ?_⟩
  · obtain ⟨g, cp, hv, _, hg⟩ := row_shape h (by omega)
    cases hv
    exact ⟨g, 0, rfl, hg, fun i hi => by rw [Nat.zero_add]; exact row_at (k := .i64) h (by omega)⟩
  · rcases Nat.eq_zero_or_pos n with h0 | h0
    · omega
    · obtain ⟨g, cp, hv, hc, _⟩ := row_shape h h0
      cases hv
      exact hc
theorem bgaps_at (w : World) (a : Option Addr) (cap n : Nat) (E : List Int) (all v : Int) (h : IsI w a E) (hl : E.length = n) (hc : n ≤ cap) (hn : n ≤ 1000000) (hE : ∀ e ∈ E, -1000000000 ≤ e ∧ e ≤ 1000000000) (ha : 0 ≤ all ∧ all ≤ 1000000000) (hv : gapsV E all = v) :
    Calls Try.prog 17 #[.slice a n cap, .int .i64 all] w fun r w' => r = .returned (i64 v) ∧ Below w.heap.size w w' := by
  subst hl hv
  exact bgaps_any w a cap E all h hc hn hE ha

set_option maxRecDepth 100000 in
set_option maxHeartbeats 4000000 in
theorem walk_BoundGaps (a0 : Option Addr) (len0 cap0 : Nat) (a1 : Int) (w : World) (w0 : IsRows w [.inl .i64] a0 len0 cap0) (w1 : (Lit.int .i64 a1).wf = true) :
    Calls Try.prog 6 #[.slice a0 len0 cap0, .int .i64 a1] w fun e w' => e = .returned (.bool true) ∧ Below w.heap.size w w' := by
  obtain ⟨E, hEl, hcap, hE⟩ := rows_isI w0
  clear w0 w1
  rcases Nat.lt_or_ge 60 len0 with hbig | hs
  · have hbig' : (60 : Int) < (len0 : Int) := by omega
    clear hE
    go_enter Try.func6, Try.ntmps6
    go_wp2_with fail
    refine (head16_any _).mono ?_
    rintro e w1 ⟨rfl, hb1⟩
    go_wp2_with fail
    go_ret
    exact ⟨rfl, hb1⟩
  have p0 : decide ((60 : Int) < (len0 : Int)) = false := decide_eq_false (by omega)
  obtain ⟨rest, hrest, r0, r1⟩ : ∃ r : Int, bits .and .i64 a1 65535 = r ∧ 0 ≤ r ∧ r ≤ 65535 := by
    refine ⟨_, rfl, ?_⟩
    rw [show (65535 : Int) = ((65535 : Nat) : Int) from rfl, and_i64 a1 65535 16 rfl (by decide)]
    show 0 ≤ a1 % 65536 ∧ a1 % 65536 ≤ 65535
    omega
  have HE := Lib.hid hE
  have HEL := Lib.hid hEl
  clear hE hEl
  go_enter Try.func6, Try.ntmps6
  go_wp2_with fail
  refine (head16_any _).mono ?_
  rintro e w2 ⟨rfl, hb1⟩
  have HB1 := Lib.hid hb1
  clear hb1
  go_wp2_with fail
  have HB2 := Lib.hid (below_new HB1.out (.cells #[] 3))
  have HO2 : Hid ((w2.alloc (.cells #[] 3)).ownsRow w.heap.size 3 1 (.slice (some ⟨w2.heap.size, 0, none⟩) 0 0) 0 ([].map i64)) := World.ownsRow_made (base := w.heap.size) (e := 3) (size := 1) w2 #[] 0 HB1.out.size (by unfold maxLen; omega) (by simp)
  clear hrest
  go_loopw [5, 6, 7, 21] (fun mv av ev iw wr => ∃ (i : Nat) (A : Option Addr) (c : Nat), i ≤ len0 ∧ mv = .int .i64 (gMo rest (E.take i)) ∧ av = .int .i64 (gAt (-1) (E.take i)) ∧ ev = .slice A i c ∧ iw = .int .i64 i ∧ Hid (Below w.heap.size w wr) ∧ Hid (wr.ownsRow w.heap.size 3 1 (.slice A i c) i ((gE (-1) (E.take i)).map i64))) (fun _ _ _ iw _ => len0 - (RowKit.intOf iw).toNat)
  case atStart => exact ⟨0, _, 0, Nat.zero_le _, by rw [List.take_zero]; rfl, by rw [List.take_zero]; rfl, rfl, rfl, HB2, by rw [List.take_zero]; exact HO2⟩
  case round =>
    clear HB2 HO2
    obtain ⟨i, A, c, hi, rfl, rfl, rfl, rfl, HB, HO⟩ := hrel
    have hab := gAt_bd (E.take i) (-1)
    rw [List.length_take] at hab
    obtain ⟨M, hM⟩ : ∃ M, gMo rest (E.take i) = M := ⟨_, rfl⟩
    obtain ⟨P, hP⟩ : ∃ P, gAt (-1) (E.take i) = P := ⟨_, rfl⟩
    have HM := Lib.hid hM
    have HP := Lib.hid hP
    rw [hP] at hab
    have hP1 : -1 ≤ P ∧ P ≤ 4000000 := by have := HEL.out; omega
    rw [hM, hP]
    clear hM hP hab
    rcases Nat.lt_or_ge i len0 with hil | hil
    · have hil' : (i : Int) < (len0 : Int) := by omega
      obtain ⟨gb, off, rfl, hgb, hcell⟩ := HE.out (by rw [HEL.out]; omega)
      have c0 := (HB.out.cell (p := ⟨gb, off + i, none⟩) hgb).trans (hcell i (by rw [HEL.out]; exact hil))
      have hd : E[i]? = some (E.getD i 0) := by rw [List.getD_eq_getElem?_getD, List.getElem?_eq_getElem (by rw [HEL.out]; exact hil)]; rfl
      generalize E.getD i 0 = x at c0 hd
      have hTk : E.take (i + 1) = E.take i ++ [x] := by rw [List.take_add_one, hd]; rfl
      have HT := Lib.hid hTk
      obtain ⟨b, hb⟩ : ∃ b, bits .and .i64 x 65535 = b := ⟨_, rfl⟩
      have hgx : gG x = 1 + b := by unfold gG; rw [hb]
      have hgb2 := gG_bd x
      rw [hgx] at hgb2
      have HGX := Lib.hid hgx
      have hb1 : 0 ≤ b ∧ b ≤ 65535 := by omega
      have HBA := Lib.hid (below_new HB.out (.cells #[.int .i64 (P + (1 + b))] 3))
      have HOA := Lib.hid ((Keep.of_below (T := fun _ => False) (below_new (Below.refl wr.heap.size wr) (.cells #[.int .i64 (P + (1 + b))] 3))).row HO.out (fun _ _ h => h))
      have HSR := Lib.hid (src_list wr [.int .i64 (P + (1 + b))] 3 1 1 rfl (one_int .i64 _))
      clear hTk hd hcell hgx hgb2
      by_cases hm : M < 1 + b
      case pos =>
        have e1 : decide (M < 1 + b) = true := decide_eq_true hm
        have HMM := Lib.hid hm
        clear hm
        go_wp2_with (at_builtin; refine list_append_grew rfl _ _ 43 rfl w.heap.size 3 _ 1 8 elem_i64 (.slice A i c) i ((gE (-1) (E.take i)).map i64) rfl HOA.out (some ⟨wr.heap.size, 0, none⟩) 1 1 [.int .i64 (P + (1 + b))] rfl HSR.out (by unfold maxLen; omega) (by omega) HBA.out.size ?_; intro v5 w5 hG; obtain ⟨A5, k5, rfl⟩ := own_shape hG.own)
        have HO5 : Hid (w5.ownsRow w.heap.size 3 1 (.slice A5 (i + 1) k5) (i + 1) ((gE (-1) (E.take (i + 1))).map i64)) := by
          show World.ownsRow _ _ _ _ _ _ _
          rw [HT.out, gE_snoc, HP.out, HGX.out, List.map_append]
          exact hG.own
        have HB5 : Hid (Below w.heap.size w w5) := below_keep HBA.out (Keep.of_grown (T := fun k => w.heap.size ≤ k) hG.grown (fun k hk => (HOA.out.lt k hk).1)) HBA.out.size (fun i hi => hi)
        clear hG HOA HBA HSR
        go_wp2_with fail
        go_roundw
        case rel => exact ⟨i + 1, A5, k5, by omega, congrArg (Value.int .i64) (by rw [HT.out, gMo_snoc, HM.out, HGX.out]; have := HMM.out; omega), congrArg (Value.int .i64) (by rw [HT.out, gAt_snoc, HP.out, HGX.out]), rfl, by go_num, HB5, HO5⟩
        case measure => first | omega | (simp [RowKit.intOf]; done) | (simp [RowKit.intOf]; omega)
      case neg =>
        have e1 : decide (M < 1 + b) = false := decide_eq_false hm
        have HMM := Lib.hid hm
        clear hm
        go_wp2_with (at_builtin; refine list_append_grew rfl _ _ 43 rfl w.heap.size 3 _ 1 8 elem_i64 (.slice A i c) i ((gE (-1) (E.take i)).map i64) rfl HOA.out (some ⟨wr.heap.size, 0, none⟩) 1 1 [.int .i64 (P + (1 + b))] rfl HSR.out (by unfold maxLen; omega) (by omega) HBA.out.size ?_; intro v5 w5 hG; obtain ⟨A5, k5, rfl⟩ := own_shape hG.own)
        have HO5 : Hid (w5.ownsRow w.heap.size 3 1 (.slice A5 (i + 1) k5) (i + 1) ((gE (-1) (E.take (i + 1))).map i64)) := by
          show World.ownsRow _ _ _ _ _ _ _
          rw [HT.out, gE_snoc, HP.out, HGX.out, List.map_append]
          exact hG.own
        have HB5 : Hid (Below w.heap.size w w5) := below_keep HBA.out (Keep.of_grown (T := fun k => w.heap.size ≤ k) hG.grown (fun k hk => (HOA.out.lt k hk).1)) HBA.out.size (fun i hi => hi)
        clear hG HOA HBA HSR
        go_wp2_with fail
        go_roundw
        case rel => exact ⟨i + 1, A5, k5, by omega, congrArg (Value.int .i64) (by rw [HT.out, gMo_snoc, HM.out, HGX.out]; have := HMM.out; omega), congrArg (Value.int .i64) (by rw [HT.out, gAt_snoc, HP.out, HGX.out]), rfl, by go_num, HB5, HO5⟩
        case measure => first | omega | (simp [RowKit.intOf]; done) | (simp [RowKit.intOf]; omega)
    · obtain rfl : i = len0 := by omega
      have hnl : ¬ (i : Int) < (i : Int) := by omega
      have hO := HO.out
      have hMM := HM.out
      have hPP := HP.out
      rw [List.take_of_length_le (by rw [HEL.out]; exact Nat.le_refl _)] at hO hMM hPP
      obtain ⟨hI, hIl, hIc⟩ := isI_own hO
      have hV := gap_all E rest r0
      rw [hMM, hPP] at hV
      have hbd := gE_bd E (-1) (by decide)
      rw [HEL.out] at hbd
      have HBD := Lib.hid hbd
      have HII := Lib.hid hI
      have HIC := Lib.hid hIc
      have HIL := Lib.hid hIl
      have HV := Lib.hid hV
      clear hO hMM hPP hI hIl hIc hV hbd HO
      go_wp2_with fail
      refine (bgaps_at _ A c i (gE (-1) E) (P + 1 + rest) M HII.out HIL.out HIC.out (by omega) (fun e he => by have := HBD.out e he; omega) (by omega) HV.out).mono ?_
      rintro r w5 ⟨rfl, hb5⟩
      have HB5 := Lib.hid (below_step HB.out hb5)
      clear hb5
      go_wp2_with fail
      go_ret
      exact ⟨rfl, HB5.out⟩
end Go.Proofs.Ytgoncakjkippkab
