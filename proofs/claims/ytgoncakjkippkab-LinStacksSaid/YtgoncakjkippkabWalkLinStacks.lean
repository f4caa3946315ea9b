/-
  LinStacks answers true for all values, and leaves all memory that was there as it was. No condition.
-/
import Derived.Test.YtgoncakjkippkabLinRows
import Derived.Test.YtgoncakjkippkabStay
import Derived.Test.YtgoncakjkippkabRegionS
namespace Go.Proofs.Ytgoncakjkippkab
open Go.RowKit
set_option linter.unusedVariables false

theorem src_dls (W : World) (b : Nat) (hb : W.heap.size = b) (d : Dd) : Src (W.alloc (d.obj 38)) 11 (some ⟨b, 0, none⟩) 1 d.list := hb ▸ src_dl W d
theorem isu_at {w : World} {a0 : Option Addr} {R : List Int} (h : IsU w a0 R) {i : Nat} (hi : i < R.length) : ∃ b off, a0 = some ⟨b, off, none⟩ ∧ b < w.heap.size ∧ ∀ j, j < R.length → w.cell? ⟨b, off + j, none⟩ = some (u64 (R.getD j 0)) := h (List.length_pos_iff.2 (fun e => by rw [e] at hi; exact absurd hi (Nat.not_lt_zero _)))
theorem isu_below {w w' : World} {a0 : Option Addr} {R : List Int} (h : IsU w a0 R) (hb : Below w.heap.size w w') : IsU w' a0 R := by
  intro hp
  obtain ⟨b, off, e, hlt, hc⟩ := h hp
  exact ⟨b, off, e, Nat.lt_of_lt_of_le hlt hb.size, fun i hi => (Keep.of_below (T := fun _ => False) hb).cell (hc i hi) (fun h => h)⟩

/-- What is had: as it was put in, or the other way round. -/
def gs (q : Bool) (R : List Int) : List Dd := if q = true then R.map (lGet 0) else R.reverse.map (lGet 1)
theorem gs_len (q : Bool) (R : List Int) : (gs q R).length = R.length := by cases q <;> simp [gs]
theorem gs_true {R : List Int} {j : Nat} {x : Int} (h : R[j]? = some x) : (gs true R)[j]? = some (lGet 0 x) := by simp [gs, h]
theorem gs_false {R : List Int} {j : Nat} {x : Int} (hj : j < R.length) (h : R[R.length - 1 - j]? = some x) : (gs false R)[j]? = some (lGet 1 x) := by
  show (R.reverse.map (lGet 1))[j]? = _
  rw [List.getElem?_map, List.getElem?_reverse hj, h]
  rfl
theorem run_gs (q : Bool) (R : List Int) : dRun [] (R.map lPut ++ gs q R ++ [lNone]) = some [] := by
  cases q
  · exact run_stack R
  · exact run_queue R
theorem OwnD.next {w W : World} {A : Option Addr} {n j c : Nat} {L G : List Dd} {d : Dd} (h : OwnD w W (.slice A (n + j + 1) c) (n + j + 1) (L ++ G.take j ++ [d])) (hd : G[j]? = some d) : OwnD w W (.slice A (n + (j + 1)) c) (n + (j + 1)) (L ++ G.take (j + 1)) := by
  rw [List.take_add_one, hd]
  rw [List.append_assoc] at h
  exact h


theorem OwnD.stays {w W w5 : World} {v v' : Value} {n : Nat} {L : List Dd} {d : Dd} (h : OwnD w W v n L) (hG : Grew W w5 w.heap.size 38 11 v v' (n + 1) (flatD L ++ d.list)) (hS : w5.ownsRow w.heap.size 38 11 v n (flatD L)) : OwnD w w5 v n L := ⟨h.1, (h.grew hG).2.1, hS⟩
theorem st_one {w W1 W2 w5 : World} {v v' : Value} {n B : Nat} {L : List Dd} (hL : OwnD w W1 v n L) (hE : IsObj W1 B lNone.list) (hne : ∀ k, v.ownBlock = some k → k ≠ B) (hb : Below W1.heap.size W1 W2)
    (hG : Grew W2 w5 w.heap.size 38 11 v v' (n + 1) (flatD L ++ lNone.list)) (hS : w5.ownsRow w.heap.size 38 11 v n (flatD L)) :
    OwnD w w5 v' (n + 1) (L ++ [lNone]) ∧ OwnD w w5 v n L ∧ IsObj w5 B lNone.list := by
  have h1 := hL.later hb
  refine ⟨h1.grew hG, h1.stays hG hS, ?_⟩
  exact (hE.later hb).keep (T := fun k => v.ownBlock = some k) (Keep.of_grown hG.grown (fun k hk => hk)) (fun h => hne B h rfl)
theorem put_fit (x : Int) : (lPut x).Fit := ⟨rfl, by show (-9223372036854775808 : Int) ≤ 0; decide, by show (0 : Int) ≤ 9223372036854775807; decide, by show (-9223372036854775808 : Int) ≤ 0; decide, by show (0 : Int) ≤ 9223372036854775807; decide⟩
theorem get_fit (e x : Int) : (lGet e x).Fit := ⟨rfl, by show (-9223372036854775808 : Int) ≤ 0; decide, by show (0 : Int) ≤ 9223372036854775807; decide, by show (-9223372036854775808 : Int) ≤ 0; decide, by show (0 : Int) ≤ 9223372036854775807; decide⟩
theorem none_fit : lNone.Fit := ⟨rfl, by show (-9223372036854775808 : Int) ≤ 0; decide, by show (0 : Int) ≤ 9223372036854775807; decide, by show (-9223372036854775808 : Int) ≤ 0; decide, by show (0 : Int) ≤ 9223372036854775807; decide⟩
theorem gs_fit (q : Bool) (R : List Int) : ∀ d ∈ R.map lPut ++ gs q R ++ [lNone], d.Fit := by
  intro d hd
  rcases List.mem_append.1 hd with hd | hd
  · rcases List.mem_append.1 hd with hd | hd
    · obtain ⟨x, _, rfl⟩ := List.mem_map.1 hd
      exact put_fit x
    · cases q with
      | true =>
        obtain ⟨x, _, rfl⟩ := List.mem_map.1 (show d ∈ R.map (lGet 0) from hd)
        exact get_fit 0 x
      | false =>
        obtain ⟨x, _, rfl⟩ := List.mem_map.1 (show d ∈ R.reverse.map (lGet 1) from hd)
        exact get_fit 1 x
  · obtain rfl := List.mem_singleton.1 hd
    exact none_fit
theorem two_fit (x : Int) : ∀ d ∈ [lPut x] ++ [lNone], d.Fit := by
  intro d hd
  rcases List.mem_append.1 hd with hd | hd
  · obtain rfl := List.mem_singleton.1 hd
    exact put_fit x
  · obtain rfl := List.mem_singleton.1 hd
    exact none_fit
theorem st_legal1 {w w5 : World} {A5 : Option Addr} {n c5 : Nat} {L : List Dd} {X : Prop} (h : OwnD w w5 (.slice A5 (n + 1) c5) (n + 1) (L ++ [lNone]) ∧ X) (hr : dRun [] (L ++ [lNone]) = some []) (hn : n + 1 ≤ 100000) (hF : ∀ d ∈ L ++ [lNone], d.Fit) :
    Calls Try.prog 9 #[.slice A5 (n + 1) c5] w5 fun r w' => r = .returned (.bool true) ∧ Below w5.heap.size w5 w' := by
  obtain ⟨tb, hD⟩ := h.1.dds hF
  exact legal_any w5 A5 (n + 1) c5 tb 0 _ true hD hn (by rw [hr]; rfl)
theorem st_legal2 {w w5 : World} {A5 : Option Addr} {c5 : Nat} {x : Int} (h : OwnD w w5 (.slice A5 (1 + 1) c5) (1 + 1) ([lPut x] ++ [lNone])) (hF : ∀ d ∈ [lPut x] ++ [lNone], d.Fit) :
    Calls Try.prog 9 #[.slice A5 (1 + 1) c5] w5 fun r w' => r = .returned (.bool false) ∧ Below w5.heap.size w5 w' := by
  obtain ⟨tb, hD⟩ := h.dds hF
  exact legal_any w5 A5 (1 + 1) c5 tb 0 _ false hD (by omega) (by rw [show [lPut x] ++ [lNone] = [lPut x, lNone] from rfl, run_not]; rfl)
theorem lays_first {R : List Int} {q : Bool} {x : Int} {LL : List Dd} (hx : R[0]? = some x) (h : R.map lPut ++ gs q R = LL) : ∃ LR, LL = lPut x :: LR := by
  cases R with
  | nil => cases hx
  | cons y R =>
    cases hx
    exact ⟨_, h.symm⟩
theorem row_first {w W : World} {g n c : Nat} {LL LR : List Dd} {d : Dd} (h0 : LL = d :: LR) (h : OwnD w W (.slice (some ⟨g, 0, none⟩) n c) n LL) : AtBd W g d := by
  obtain ⟨rfl, _, h3⟩ := h
  have h4 := AtDd.row (i := 0) h3 (d := d) (by rw [h0]; rfl)
  have e : ∀ k, 0 * 11 + k = k := fun k => by omega
  obtain ⟨c0, c1, c2, c3, c4, c5, c6, c7, c8, c9, c10⟩ := h4
  simp only [Nat.zero_mul, Nat.zero_add] at c0 c1 c2 c3 c4 c5 c6 c7 c8 c9 c10
  exact ⟨c0, c1, c2, c3, c4, c5, c6, c7, c8, c9, c10⟩
theorem row_form {w : World} {base n sz : Nat} {e : TypeId} {v : Value} {xs : List Value} (h : w.ownsRow base e sz v n xs) (hn : 0 < n) : ∃ g cap, v = .slice (some ⟨g, 0, none⟩) n cap := by
  rcases h.2 with ⟨_, h0⟩ | ⟨g, cap, cur, hv, _⟩
  · omega
  · exact ⟨g, cap, hv⟩
theorem dd_heap {b base : Nat} {W : World} {d : Dd} (h : base ≤ b) (hh : W.heap[b]? = some (d.obj 38)) : W.ownsRow base 38 11 (.slice (some ⟨b, 0, none⟩) 1 1) 1 (flatD [d]) := by
  refine ⟨rfl, .inr ⟨b, 1, d.list.toArray, rfl, h, hh, Nat.le_refl _, by unfold maxLen; omega, rfl, ?_⟩⟩
  show d.list.take 11 = d.list ++ []
  rw [List.append_nil]
  rfl
theorem src_heap {b : Nat} {W : World} {d : Dd} (hh : W.heap[b]? = some (d.obj 38)) : Src W 11 (some ⟨b, 0, none⟩) 1 d.list := by
  have h := dd_heap (base := 0) (Nat.zero_le _) hh
  refine ⟨(fun h => by cases h), rfl, fun ad had j u hj => ?_, fun u hu => d.one u hu⟩
  cases had
  exact h.cells (g := b) rfl j u (by show (d.list ++ [])[j]? = _; rw [List.append_nil]; exact hj)

set_option maxRecDepth 100000 in
set_option maxHeartbeats 4000000 in
theorem walk_LinStacks (a0 : Option Addr) (len0 cap0 : Nat) (a1 : Bool) (w : World) (w0 : IsRows w [.inl .u64] a0 len0 cap0) :
    Calls Try.prog 4 #[.slice a0 len0 cap0, .bool a1] w fun e w' => e = .returned (.bool true) ∧ Below w.heap.size w w' := by
  rcases Nat.lt_or_ge 40 len0 with hbig | hs
  · have hbig' : (40 : Int) < (len0 : Int) := by omega
    clear w0
    go_enter Try.func4, Try.ntmps4
    go_wp2_with fail
    refine (head15_any _).mono ?_
    rintro e w1 ⟨rfl, hb1⟩
    go_wp2_with fail
    go_ret
    exact ⟨rfl, hb1⟩
  have p0 : decide ((40 : Int) < (len0 : Int)) = false := decide_eq_false (by omega)
  obtain ⟨R, hR, hcap, hu, hbd⟩ := rows_isU w0
  have HU := Lib.hid hu
  have HBD := Lib.hid hbd
  clear w0 hu hbd
  go_enter Try.func4, Try.ntmps4
  go_wp2_with fail
  refine (head15_any _).mono ?_
  rintro e w2 ⟨rfl, hb1⟩
  have HO0 := Lib.hid (OwnD.nil hb1)
  clear hb1
  go_wp2_with fail
  go_loopw [5, 20] (fun vv iw wr => ∃ (i : Nat) (A : Option Addr) (c : Nat), i ≤ len0 ∧ vv = .slice A i c ∧ iw = .int .i64 i ∧ Hid (OwnD w wr (.slice A i c) i ((R.take i).map lPut))) (fun _ iw _ => len0 - (RowKit.intOf iw).toNat)
  case atStart => exact ⟨0, _, 0, Nat.zero_le _, rfl, rfl, by rw [List.take_zero]; exact HO0⟩
  case round =>
    clear HO0
    obtain ⟨i, A, c, hi, rfl, rfl, HO⟩ := hrel
    rcases Nat.lt_or_ge i len0 with hil | hil
    · have hil' : (i : Int) < (len0 : Int) := by omega
      obtain ⟨tb, off, rfl, htb, hc⟩ := isu_at (isu_below HU.out HO.out.2.1) (i := i) (by omega)
      have c0 := hc i (by omega)
      obtain ⟨x, hx⟩ : ∃ x, R[i]? = some x := ⟨_, List.getElem?_eq_getElem (by omega)⟩
      rw [List.getD_eq_getElem?_getD, hx, Option.getD_some] at c0
      have HX := Lib.hid hx
      have HON := Lib.hid (HO.out.later (below_new (Below.refl wr.heap.size wr) ((lPut x).obj 38)))
      clear hc hx
      go_wp2_with (at_builtin; refine list_append_grew rfl _ _ 22 rfl w.heap.size 38 _ 11 88 elem_dd (.slice A i c) i (flatD ((R.take i).map lPut)) rfl HON.out.2.2 (some ⟨_, 0, none⟩) 1 1 (lPut x).list rfl (src_dls _ _ (by simp) (lPut x)) (by unfold maxLen; omega) (by omega) HON.out.2.1.size ?_; intro v' w5 hG)
      have hO5 := HON.out.grew hG
      obtain ⟨A5, c5, rfl⟩ := hO5.shape
      have HO5 : Hid (OwnD w w5 (.slice A5 (i + 1) c5) (i + 1) ((R.take (i + 1)).map lPut)) := by
        rw [List.take_add_one, HX.out, List.map_append]
        exact hO5
      clear hG hO5
      go_wp2_with fail
      go_roundw
      case rel => exact ⟨i + 1, A5, c5, by omega, rfl, by go_num, HO5⟩
      case measure => first | omega | (simp [RowKit.intOf]; done) | (simp [RowKit.intOf]; omega)
    · obtain rfl : i = len0 := by omega
      have hnl : ¬ (i : Int) < (i : Int) := by omega
      have HO1 : Hid (OwnD w wr (.slice A i c) (i + 0) (R.map lPut ++ (gs a1 R).take 0)) := by
        have h := HO.out
        rw [List.take_of_length_le (by omega)] at h
        rw [List.take_zero, List.append_nil]
        exact h
      clear HO
      go_wp2_with fail
      go_loopw [5, 34] (fun vv iw wr => ∃ (j : Nat) (A : Option Addr) (c : Nat), j ≤ i ∧ vv = .slice A (i + j) c ∧ iw = .int .i64 j ∧ Hid (OwnD w wr (.slice A (i + j) c) (i + j) (R.map lPut ++ (gs a1 R).take j))) (fun _ iw _ => i - (RowKit.intOf iw).toNat)
      case atStart => exact ⟨0, A, c, Nat.zero_le _, rfl, rfl, HO1⟩
      case round =>
        clear HO1
        obtain ⟨j, A, c, hj, rfl, rfl, HO⟩ := hrel
        rcases Nat.lt_or_ge j i with hjl | hjl
        · have hjl' : (j : Int) < (i : Int) := by omega
          obtain ⟨tb, off, rfl, htb, hc⟩ := isu_at (isu_below HU.out HO.out.2.1) (i := j) (by omega)
          have ca := hc j (by omega)
          have cb := hc (i - 1 - j) (by omega)
          have hl1 : wrap64 (wrap64 ((i : Int) - 1) - (j : Int)) = ((i - 1 - j : Nat) : Int) := by unfold wrap64; omega
          have hl0 : i - 1 - j < i := by omega
          obtain ⟨xa, hxa⟩ : ∃ x, R[j]? = some x := ⟨_, List.getElem?_eq_getElem (by omega)⟩
          obtain ⟨xb, hxb⟩ : ∃ x, R[i - 1 - j]? = some x := ⟨_, List.getElem?_eq_getElem (by omega)⟩
          rw [List.getD_eq_getElem?_getD, hxa, Option.getD_some] at ca
          rw [List.getD_eq_getElem?_getD, hxb, Option.getD_some] at cb
          clear hc
          cases a1 with
          | true =>
            have HX := Lib.hid (gs_true hxa)
            have HON := Lib.hid (HO.out.later (below_new (Below.refl wr.heap.size wr) ((lGet 0 xa).obj 38)))
            clear hxa hxb
            go_wp2_with (at_builtin; refine list_append_grew rfl _ _ 22 rfl w.heap.size 38 _ 11 88 elem_dd (.slice A (i + j) c) (i + j) (flatD (R.map lPut ++ (gs true R).take j)) rfl HON.out.2.2 (some ⟨_, 0, none⟩) 1 1 (lGet 0 xa).list rfl (src_dls _ _ (by simp) (lGet 0 xa)) (by unfold maxLen; omega) (by omega) HON.out.2.1.size ?_; intro v' w5 hG)
            have hO5 := HON.out.grew hG
            obtain ⟨A5, c5, rfl⟩ := hO5.shape
            have HO5 := Lib.hid (hO5.next HX.out)
            clear hG hO5
            go_wp2_with fail
            go_roundw
            case rel => exact ⟨j + 1, A5, c5, by omega, rfl, by go_num, HO5⟩
            case measure => first | omega | (simp [RowKit.intOf]; done) | (simp [RowKit.intOf]; omega)
          | false =>
            have HX := Lib.hid (gs_false (R := R) (j := j) (x := xb) (by omega) (by rw [hR]; exact hxb))
            have HON := Lib.hid (HO.out.later (below_new (Below.refl wr.heap.size wr) ((lGet 1 xb).obj 38)))
            clear hxa hxb
            go_wp2_with (at_builtin; refine list_append_grew rfl _ _ 22 rfl w.heap.size 38 _ 11 88 elem_dd (.slice A (i + j) c) (i + j) (flatD (R.map lPut ++ (gs false R).take j)) rfl HON.out.2.2 (some ⟨_, 0, none⟩) 1 1 (lGet 1 xb).list rfl (src_dls _ _ (by simp) (lGet 1 xb)) (by unfold maxLen; omega) (by omega) HON.out.2.1.size ?_; intro v' w5 hG)
            have hO5 := HON.out.grew hG
            obtain ⟨A5, c5, rfl⟩ := hO5.shape
            have HO5 := Lib.hid (hO5.next HX.out)
            clear hG hO5
            go_wp2_with fail
            go_roundw
            case rel => exact ⟨j + 1, A5, c5, by omega, rfl, by go_num, HO5⟩
            case measure => first | omega | (simp [RowKit.intOf]; done) | (simp [RowKit.intOf]; omega)
        · obtain rfl : j = i := by omega
          have hnl2 : ¬ (j : Int) < (j : Int) := by omega
          have HO1 : Hid (OwnD w wr (.slice A (j + j) c) (j + j) (R.map lPut ++ gs a1 R)) := by
            have h := HO.out
            rw [List.take_of_length_le (by rw [gs_len]; omega)] at h
            exact h
          clear HO
          have hE := IsObj.made wr lNone.list 38
          have hL := HO1.out.later (below_new (Below.refl wr.heap.size wr) (lNone.obj 38))
          have hNE : ∀ k, (Value.slice A (j + j) c).ownBlock = some k → k ≠ wr.heap.size := fun k hk => Nat.ne_of_lt (HO1.out.2.2.lt k hk).2
          have hRun := run_gs a1 R
          have hFit := gs_fit a1 R
          generalize hLL : R.map lPut ++ gs a1 R = LL at hL hRun hFit
          have HLL := Lib.hid hLL
          clear hLL HO1
          skip
          go_wp2_with fail
          show Code.wp _ _ _ _ (wr.alloc (lNone.obj 38))
          change IsObj (wr.alloc (lNone.obj 38)) _ _ at hE
          generalize wr.alloc (lNone.obj 38) = W1 at hE hL ⊢
          generalize wr.heap.size = B at hE hNE ⊢
          rcases Nat.eq_zero_or_pos j with rfl | hjp
          · skip
            have HE := Lib.hid hE
            have HL := Lib.hid hL
            have HNE := Lib.hid hNE
            have HRUN := Lib.hid hRun
            have HFIT := Lib.hid hFit
            clear hE hL hNE hRun hFit
            replace HE := Lib.hid (HE.out.later (Below.refl _ _).drew)
            replace HL := Lib.hid (HL.out.later (Below.refl _ _).drew)
            refine wp_region_seqT (fun w' => IsObj w' B lNone.list ∧ True) (.take 0 (.take 1 (.one 2 (.one 3 (.one 4 (.take 5 (.take 6 (.take 7 (.take 8 (.take 9 (.take 10 (.take 11 (.take 12 (.take 14 (.two 13 (.one 15 (.one 16 (.one 17 (.take 18 (.take 19 (.take 20 (.take 21 .nil))))))) 15 (.one 13 (.one 16 (.one 17 (.take 18 (.take 19 (.take 20 (.take 21 .nil)))))))))))))))))))))) (by kernel_rfl) (by kernel_rfl) (by kernel_rfl) (by decide) (fun _ _ _ _ _ h => h) ⟨HE.out, trivial⟩ ?_
            generalize W1.drew = wd at HE HL ⊢
            repeat (first | (refine seqT_take (v := ?_) rfl ?_ ?_ ?_; rotate_left 1; rfl; (focus (intro wS hSw; have e0 := hSw.1.at' 0 _ rfl; have e1 := hSw.1.at' 1 _ rfl; have e2 := hSw.1.at' 2 _ rfl; have e3 := hSw.1.at' 3 _ rfl; have e4 := hSw.1.at' 4 _ rfl; have e5 := hSw.1.at' 5 _ rfl; have e6 := hSw.1.at' 6 _ rfl; have e7 := hSw.1.at' 7 _ rfl; have e8 := hSw.1.at' 8 _ rfl; have e9 := hSw.1.at' 9 _ rfl; have e10 := hSw.1.at' 10 _ rfl; go_simp; first | done | with_reducible rfl)); (try simp only [Act.put, List.setIfInBounds_toArray, List.set_cons_zero, List.set_cons_succ])) | (refine seqT_skip rfl ?_ ?_; rfl; (try simp only [Act.put, List.setIfInBounds_toArray, List.set_cons_zero, List.set_cons_succ])))
            refine runT rfl (fun K hK => ?_)
            go_simp
            change K _ (wd.alloc (lNone.obj 38))
            have hb := below_new (Below.refl wd.heap.size wd) (lNone.obj 38)
            have HSR := Lib.hid (src_dl wd lNone)
            replace HE := Lib.hid (HE.out.later hb)
            replace HL := Lib.hid (HL.out.later hb)
            clear hb
            generalize wd.alloc (lNone.obj 38) = wd2 at HE HL HSR ⊢
            generalize wd.heap.size = sb at HSR ⊢
            refine hK.out _ _ ⟨HE.out, trivial⟩ (fun _ => ?_)
            (try simp only [Act.put, List.setIfInBounds_toArray, List.set_cons_zero, List.set_cons_succ])
            clear hK K
            refine runT rfl (fun K hK => ?_)
            refine step_append_stays0 rfl _ _ 22 rfl w.heap.size 38 _ 11 88 elem_dd (.slice A (0 + 0) c) (0 + 0) (flatD LL) rfl HL.out.2.2 (some ⟨sb, 0, none⟩) 1 1 lNone.list rfl HSR.out (by unfold maxLen; omega) (by omega) HL.out.2.1.size ?_
            intro v5 w5 hG hS
            have hF := st_one HL.out HE.out HNE.out (Below.refl _ _) hG hS
            obtain ⟨A5, c5, rfl⟩ := own_shape hG.own
            have HF := Lib.hid hF
            clear hG hS hF HSR
            refine hK.out _ _ ⟨HF.out.2.2, trivial⟩ (fun _ => ?_)
            (try simp only [Act.put, List.setIfInBounds_toArray, List.set_cons_zero, List.set_cons_succ])
            clear hK K
            refine runT rfl (fun K hK => ?_)
            go_simp
            go_at_call 9
            refine (st_legal1 HF.out HRUN.out (by omega) HFIT.out).mono ?_
            rintro r w6 ⟨rfl, hb6⟩
            (try go_wp2_with fail)
            have HB6 := Lib.hid (below_step HF.out.1.2.1 hb6)
            have HE6 := Lib.hid (HF.out.2.2.later hb6)
            skip
            clear hb6
            refine hK.out _ _ ⟨HE6.out, trivial⟩ (fun _ => ?_)
            (try simp only [Act.put, List.setIfInBounds_toArray, List.set_cons_zero, List.set_cons_succ])
            clear hK K
            repeat (first | (refine seqT_take (v := ?_) rfl ?_ ?_ ?_; rotate_left 1; rfl; (focus (intro wS hSw; skip; go_simp; first | done | with_reducible rfl)); (try simp only [Act.put, List.setIfInBounds_toArray, List.set_cons_zero, List.set_cons_succ])) | (refine seqT_skip rfl ?_ ?_; rfl; (try simp only [Act.put, List.setIfInBounds_toArray, List.set_cons_zero, List.set_cons_succ])))
            refine ⟨?_, ?_⟩
            all_goals
              repeat (refine runT_skip rfl rfl ⟨HE6.out, trivial⟩ ?_; (try simp only [Act.put, List.setIfInBounds_toArray, List.set_cons_zero, List.set_cons_succ]))
              repeat (first | (refine seqT_take (v := ?_) rfl ?_ ?_ ?_; rotate_left 1; rfl; (focus (intro wS hSw; skip; go_simp; first | done | with_reducible rfl)); (try simp only [Act.put, List.setIfInBounds_toArray, List.set_cons_zero, List.set_cons_succ])) | (refine seqT_skip rfl ?_ ?_; rfl; (try simp only [Act.put, List.setIfInBounds_toArray, List.set_cons_zero, List.set_cons_succ])))
              refine seqT_done ?_
              go_wp2_with fail
              go_ret
              exact ⟨rfl, HB6.out⟩
          · have hj0 : ((j : Int) == 0) = false := beq_false_of_ne (by omega)
            have hjj : (0 : Int) < (j : Int) + (j : Int) := by omega
            obtain ⟨x, hx⟩ : ∃ x, R[0]? = some x := ⟨_, List.getElem?_eq_getElem (by omega)⟩
            obtain ⟨LR, hLR⟩ := lays_first hx HLL.out
            obtain ⟨g, cp, hv⟩ := row_form hL.2.2 (by omega)
            obtain ⟨rfl, rfl⟩ : A = some ⟨g, 0, none⟩ ∧ c = cp := by cases hv; exact ⟨rfl, rfl⟩
            have HLR := Lib.hid hLR
            have HFIX := Lib.hid (two_fit x)
            clear hLR hv hx
            have HE := Lib.hid hE
            have HL := Lib.hid hL
            have HNE := Lib.hid hNE
            have HRUN := Lib.hid hRun
            have HFIT := Lib.hid hFit
            clear hE hL hNE hRun hFit
            replace HE := Lib.hid (HE.out.later (Below.refl _ _).drew)
            replace HL := Lib.hid (HL.out.later (Below.refl _ _).drew)
            refine wp_region_seqT (fun w' => IsObj w' B lNone.list ∧ AtBd w' g (lPut x)) (.take 0 (.take 1 (.one 2 (.one 3 (.one 4 (.take 5 (.take 6 (.take 7 (.take 8 (.take 9 (.take 10 (.take 11 (.take 12 (.take 14 (.two 13 (.one 15 (.one 16 (.one 17 (.take 18 (.take 19 (.take 20 (.take 21 .nil))))))) 15 (.one 13 (.one 16 (.one 17 (.take 18 (.take 19 (.take 20 (.take 21 .nil)))))))))))))))))))))) (by kernel_rfl) (by kernel_rfl) (by kernel_rfl) (by decide) (fun _ _ _ _ _ h => h) ⟨HE.out, (row_first HLR.out HL.out)⟩ ?_
            generalize W1.drew = wd at HE HL ⊢
            repeat (first | (refine seqT_take (v := ?_) rfl ?_ ?_ ?_; rotate_left 1; rfl; (focus (intro wS hSw; have e0 := hSw.1.at' 0 _ rfl; have e1 := hSw.1.at' 1 _ rfl; have e2 := hSw.1.at' 2 _ rfl; have e3 := hSw.1.at' 3 _ rfl; have e4 := hSw.1.at' 4 _ rfl; have e5 := hSw.1.at' 5 _ rfl; have e6 := hSw.1.at' 6 _ rfl; have e7 := hSw.1.at' 7 _ rfl; have e8 := hSw.1.at' 8 _ rfl; have e9 := hSw.1.at' 9 _ rfl; have e10 := hSw.1.at' 10 _ rfl; obtain ⟨d0, d1, d2, d3, d4, d5, d6, d7, d8, d9, d10⟩ := hSw.2; go_simp; first | done | with_reducible rfl)); (try simp only [Act.put, List.setIfInBounds_toArray, List.set_cons_zero, List.set_cons_succ])))
            refine runT rfl (fun K hK => ?_)
            go_simp
            change K _ (wd.alloc (lNone.obj 38))
            have hb := below_new (Below.refl wd.heap.size wd) (lNone.obj 38)
            have HSR := Lib.hid (src_dl wd lNone)
            replace HE := Lib.hid (HE.out.later hb)
            replace HL := Lib.hid (HL.out.later hb)
            clear hb
            generalize wd.alloc (lNone.obj 38) = wd2 at HE HL HSR ⊢
            generalize wd.heap.size = sb at HSR ⊢
            refine hK.out _ _ ⟨HE.out, (row_first HLR.out HL.out)⟩ (fun _ => ?_)
            (try simp only [Act.put, List.setIfInBounds_toArray, List.set_cons_zero, List.set_cons_succ])
            clear hK K
            refine runT rfl (fun K hK => ?_)
            refine step_append_stays0 rfl _ _ 22 rfl w.heap.size 38 _ 11 88 elem_dd (.slice (some ⟨g, 0, none⟩) (j + j) c) (j + j) (flatD LL) rfl HL.out.2.2 (some ⟨sb, 0, none⟩) 1 1 lNone.list rfl HSR.out (by unfold maxLen; omega) (by omega) HL.out.2.1.size ?_
            intro v5 w5 hG hS
            have hF := st_one HL.out HE.out HNE.out (Below.refl _ _) hG hS
            obtain ⟨A5, c5, rfl⟩ := own_shape hG.own
            have HF := Lib.hid hF
            clear hG hS hF HSR
            refine hK.out _ _ ⟨HF.out.2.2, (row_first HLR.out HF.out.2.1)⟩ (fun _ => ?_)
            (try simp only [Act.put, List.setIfInBounds_toArray, List.set_cons_zero, List.set_cons_succ])
            clear hK K
            refine runT rfl (fun K hK => ?_)
            go_simp
            go_at_call 9
            refine (st_legal1 HF.out HRUN.out (by omega) HFIT.out).mono ?_
            rintro r w6 ⟨rfl, hb6⟩
            (try go_wp2_with fail)
            have HB6 := Lib.hid (below_step HF.out.1.2.1 hb6)
            have HE6 := Lib.hid (HF.out.2.2.later hb6)
            have HD6 := Lib.hid (row_first HLR.out (HF.out.2.1.later hb6))
            clear hb6
            refine hK.out _ _ ⟨HE6.out, HD6.out⟩ (fun _ => ?_)
            (try simp only [Act.put, List.setIfInBounds_toArray, List.set_cons_zero, List.set_cons_succ])
            clear hK K
            repeat (refine seqT_take (v := ?_) rfl ?_ ?_ ?_; rotate_left 1; rfl; (focus (intro wS hSw; have e0 := hSw.1.at' 0 _ rfl; have e1 := hSw.1.at' 1 _ rfl; have e2 := hSw.1.at' 2 _ rfl; have e3 := hSw.1.at' 3 _ rfl; have e4 := hSw.1.at' 4 _ rfl; have e5 := hSw.1.at' 5 _ rfl; have e6 := hSw.1.at' 6 _ rfl; have e7 := hSw.1.at' 7 _ rfl; have e8 := hSw.1.at' 8 _ rfl; have e9 := hSw.1.at' 9 _ rfl; have e10 := hSw.1.at' 10 _ rfl; obtain ⟨d0, d1, d2, d3, d4, d5, d6, d7, d8, d9, d10⟩ := hSw.2; go_simp; first | done | with_reducible rfl)); (try simp only [Act.put, List.setIfInBounds_toArray, List.set_cons_zero, List.set_cons_succ]))
            refine ⟨?_, ?_⟩
            · skip
              refine runT_on rfl rfl (fun K hK => ?_)
              go_simp
              change K _ (w6.alloc ((lPut x).obj 38))
              have hb := below_new (Below.refl w6.heap.size w6) ((lPut x).obj 38)
              have HNB := Lib.hid (show B ≠ w6.heap.size ∧ g ≠ w6.heap.size from ⟨Nat.ne_of_lt HE6.out.lt, Nat.ne_of_lt HD6.out.lt⟩)
              have HRW := Lib.hid (dd_heap (base := w.heap.size) (d := lPut x) HB6.out.size (heap_alloc_new w6 _))
              replace HE6 := Lib.hid (HE6.out.later hb)
              replace HD6 := Lib.hid (HD6.out.later hb)
              replace HB6 := Lib.hid (below_step HB6.out hb)
              clear hb
              generalize w6.alloc ((lPut x).obj 38) = w7 at HE6 HD6 HB6 HRW HNB ⊢
              generalize w6.heap.size = lb at HRW HNB ⊢
              refine hK.out _ _ ⟨HE6.out, HD6.out⟩ (fun _ => ?_)
              (try simp only [Act.put, List.setIfInBounds_toArray, List.set_cons_zero, List.set_cons_succ])
              clear hK K
              refine runT_on rfl rfl (fun K hK => ?_)
              go_simp
              change K _ (w7.alloc (lNone.obj 38))
              have hb := below_new (Below.refl w7.heap.size w7) (lNone.obj 38)
              have HSR := Lib.hid (src_dl w7 lNone)
              replace HRW := Lib.hid ((Keep.of_below (T := fun _ => False) hb).row HRW.out (fun _ _ h => h))
              replace HE6 := Lib.hid (HE6.out.later hb)
              replace HD6 := Lib.hid (HD6.out.later hb)
              replace HB6 := Lib.hid (below_step HB6.out hb)
              clear hb
              generalize w7.alloc (lNone.obj 38) = w8 at HE6 HD6 HB6 HSR HRW ⊢
              generalize w7.heap.size = nb at HSR ⊢
              refine hK.out _ _ ⟨HE6.out, HD6.out⟩ (fun _ => ?_)
              (try simp only [Act.put, List.setIfInBounds_toArray, List.set_cons_zero, List.set_cons_succ])
              clear hK K
              refine runT_on rfl rfl (fun K hK => ?_)
              refine wp_append_stays _ _ 22 rfl w.heap.size 38 _ 11 88 elem_dd (.slice (some ⟨lb, 0, none⟩) 1 1) 1 (flatD [lPut x]) rfl HRW.out (some ⟨nb, 0, none⟩) 1 1 lNone.list rfl HSR.out (by unfold maxLen; omega) (by omega) HB6.out.size ?_
              intro v7 w9 hG hS
              have hF2 := OwnD.grew (L := [lPut x]) (d := lNone) ⟨rfl, HB6.out, HRW.out⟩ hG
              obtain ⟨A7, c7, rfl⟩ := own_shape hG.own
              have HF2 := Lib.hid hF2
              have hk := Keep.of_grown (T := fun k => (Value.slice (some ⟨lb, 0, none⟩) 1 1).ownBlock = some k) hG.grown (fun k hk => hk)
              replace HE6 := Lib.hid (HE6.out.keep hk (fun e => HNB.out.1 (Option.some.inj e).symm))
              replace HD6 := Lib.hid (HD6.out.keep hk (fun e => HNB.out.2 (Option.some.inj e).symm))
              clear hG hS hF2 hk
              refine hK.out _ _ ⟨HE6.out, HD6.out⟩ (fun _ => ?_)
              (try simp only [Act.put, List.setIfInBounds_toArray, List.set_cons_zero, List.set_cons_succ])
              clear hK K
              refine runT_on rfl rfl (fun K hK => ?_)
              go_simp
              go_at_call 9
              refine (st_legal2 HF2.out HFIX.out).mono ?_
              rintro r w10 ⟨rfl, hb10⟩
              (try go_wp2_with fail)
              have HB10 := Lib.hid (below_step HF2.out.2.1 hb10)
              replace HE6 := Lib.hid (HE6.out.later hb10)
              replace HD6 := Lib.hid (HD6.out.later hb10)
              clear hb10
              refine hK.out _ _ ⟨HE6.out, HD6.out⟩ (fun _ => ?_)
              (try simp only [Act.put, List.setIfInBounds_toArray, List.set_cons_zero, List.set_cons_succ])
              clear hK K
              repeat (first | (refine seqT_take (v := ?_) rfl ?_ ?_ ?_; rotate_left 1; rfl; (focus (intro wS hSw; skip; go_simp; first | done | with_reducible rfl)); (try simp only [Act.put, List.setIfInBounds_toArray, List.set_cons_zero, List.set_cons_succ])))
              refine seqT_done ?_
              go_wp2_with fail
              go_ret
              exact ⟨rfl, HB10.out⟩
            · skip
              refine runT_on rfl rfl (fun K hK => ?_)
              go_simp
              change K _ (w6.alloc (lNone.obj 38))
              have hb := below_new (Below.refl w6.heap.size w6) (lNone.obj 38)
              have HSR := Lib.hid (src_dl w6 lNone)
              replace HE6 := Lib.hid (HE6.out.later hb)
              replace HD6 := Lib.hid (HD6.out.later hb)
              replace HB6 := Lib.hid (below_step HB6.out hb)
              clear hb
              generalize w6.alloc (lNone.obj 38) = w7 at HE6 HD6 HB6 HSR ⊢
              generalize w6.heap.size = nb at HSR ⊢
              refine hK.out _ _ ⟨HE6.out, HD6.out⟩ (fun _ => ?_)
              (try simp only [Act.put, List.setIfInBounds_toArray, List.set_cons_zero, List.set_cons_succ])
              clear hK K
              refine runT_on rfl rfl (fun K hK => ?_)
              go_simp
              change K _ (w7.alloc ((lPut x).obj 38))
              have hb := below_new (Below.refl w7.heap.size w7) ((lPut x).obj 38)
              have HNB := Lib.hid (show B ≠ w7.heap.size ∧ g ≠ w7.heap.size from ⟨Nat.ne_of_lt HE6.out.lt, Nat.ne_of_lt HD6.out.lt⟩)
              have HRW := Lib.hid (dd_heap (base := w.heap.size) (d := lPut x) HB6.out.size (heap_alloc_new w7 _))
              replace HSR := Lib.hid (src_later HSR.out hb)
              replace HE6 := Lib.hid (HE6.out.later hb)
              replace HD6 := Lib.hid (HD6.out.later hb)
              replace HB6 := Lib.hid (below_step HB6.out hb)
              clear hb
              generalize w7.alloc ((lPut x).obj 38) = w8 at HE6 HD6 HB6 HSR HRW HNB ⊢
              generalize w7.heap.size = lb at HRW HNB ⊢
              refine hK.out _ _ ⟨HE6.out, HD6.out⟩ (fun _ => ?_)
              (try simp only [Act.put, List.setIfInBounds_toArray, List.set_cons_zero, List.set_cons_succ])
              clear hK K
              refine runT_on rfl rfl (fun K hK => ?_)
              refine wp_append_stays _ _ 22 rfl w.heap.size 38 _ 11 88 elem_dd (.slice (some ⟨lb, 0, none⟩) 1 1) 1 (flatD [lPut x]) rfl HRW.out (some ⟨nb, 0, none⟩) 1 1 lNone.list rfl HSR.out (by unfold maxLen; omega) (by omega) HB6.out.size ?_
              intro v7 w9 hG hS
              have hF2 := OwnD.grew (L := [lPut x]) (d := lNone) ⟨rfl, HB6.out, HRW.out⟩ hG
              obtain ⟨A7, c7, rfl⟩ := own_shape hG.own
              have HF2 := Lib.hid hF2
              have hk := Keep.of_grown (T := fun k => (Value.slice (some ⟨lb, 0, none⟩) 1 1).ownBlock = some k) hG.grown (fun k hk => hk)
              replace HE6 := Lib.hid (HE6.out.keep hk (fun e => HNB.out.1 (Option.some.inj e).symm))
              replace HD6 := Lib.hid (HD6.out.keep hk (fun e => HNB.out.2 (Option.some.inj e).symm))
              clear hG hS hF2 hk
              refine hK.out _ _ ⟨HE6.out, HD6.out⟩ (fun _ => ?_)
              (try simp only [Act.put, List.setIfInBounds_toArray, List.set_cons_zero, List.set_cons_succ])
              clear hK K
              refine runT_on rfl rfl (fun K hK => ?_)
              go_simp
              go_at_call 9
              refine (st_legal2 HF2.out HFIX.out).mono ?_
              rintro r w10 ⟨rfl, hb10⟩
              (try go_wp2_with fail)
              have HB10 := Lib.hid (below_step HF2.out.2.1 hb10)
              replace HE6 := Lib.hid (HE6.out.later hb10)
              replace HD6 := Lib.hid (HD6.out.later hb10)
              clear hb10
              refine hK.out _ _ ⟨HE6.out, HD6.out⟩ (fun _ => ?_)
              (try simp only [Act.put, List.setIfInBounds_toArray, List.set_cons_zero, List.set_cons_succ])
              clear hK K
              repeat (first | (refine seqT_take (v := ?_) rfl ?_ ?_ ?_; rotate_left 1; rfl; (focus (intro wS hSw; skip; go_simp; first | done | with_reducible rfl)); (try simp only [Act.put, List.setIfInBounds_toArray, List.set_cons_zero, List.set_cons_succ])))
              refine seqT_done ?_
              go_wp2_with fail
              go_ret
              exact ⟨rfl, HB10.out⟩
end Go.Proofs.Ytgoncakjkippkab
