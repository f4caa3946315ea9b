/-
  The laws' own test of an order: it tells true of each that is one. No condition but that lists are no longer than 1000.
-/
import Derived.Test.YtgoncakjkippkaaLinSome
namespace Go.Proofs.Ytgoncakjkippkaa
open Go.RowKit
set_option linter.unusedVariables false

/-- Where each stands in the first n of an order, from 1 on; 0: nowhere. -/
def atO (O : List Nat) : Nat → Nat → Int
  | 0, _ => 0
  | n + 1, k => if O[n]? = some k then (n : Int) + 1 else atO O n k
theorem oRun_snoc {l : List Dd} {i : Nat} : ∀ {O : List Nat} {row r : List Int}, oRun l row O = some r → oRun l row (O ++ [i]) = (match l[i]? with | some d => dDo r (dAns r d) | none => none)
  | [], row, r, h => by
    cases h
    show oRun l row [i] = _
    rw [oRun]
    cases l[i]? with
    | none => rfl
    | some d =>
      show (dDo row (dAns row d)).bind _ = dDo row (dAns row d)
      cases dDo row (dAns row d) <;> rfl
  | j :: O, row, r, h => by
    rw [List.cons_append]
    rw [oRun] at h ⊢
    cases hj : l[j]? with
    | none => rw [hj] at h; cases h
    | some d =>
      rw [hj] at h
      show (dDo row (dAns row d)).bind _ = _
      have h' : (dDo row (dAns row d)).bind (fun r => oRun l r O) = some r := h
      cases hd : dDo row (dAns row d) with
      | none => rw [hd] at h'; cases h'
      | some r1 =>
        rw [hd] at h'
        exact oRun_snoc (show oRun l r1 O = some r from h')
theorem oRun_take {l : List Dd} : ∀ {O : List Nat} {row r : List Int} (m : Nat), oRun l row O = some r → ∃ r', oRun l row (O.take m) = some r'
  | O, row, r, 0, h => ⟨row, by rw [List.take_zero]; rfl⟩
  | [], row, r, m + 1, h => ⟨r, by rw [List.take_nil]; exact h⟩
  | j :: O, row, r, m + 1, h => by
    rw [List.take_succ_cons]
    rw [oRun] at h ⊢
    cases hj : l[j]? with
    | none => rw [hj] at h; cases h
    | some d =>
      rw [hj] at h
      have h' : (dDo row (dAns row d)).bind (fun r => oRun l r O) = some r := h
      cases hd : dDo row (dAns row d) with
      | none => rw [hd] at h'; cases h'
      | some r1 =>
        rw [hd] at h'
        obtain ⟨r2, h2⟩ := oRun_take m (show oRun l r1 O = some r from h')
        refine ⟨r2, ?_⟩
        show (dDo row (dAns row d)).bind (fun r => oRun l r (O.take m)) = some r2
        rw [hd]
        exact h2
theorem oRun_len {l : List Dd} : ∀ {O : List Nat} {row r : List Int}, oRun l row O = some r → r.length ≤ row.length + O.length
  | [], row, r, h => by cases h; simp
  | j :: O, row, r, h => by
    rw [oRun] at h
    cases hj : l[j]? with
    | none => rw [hj] at h; cases h
    | some d =>
      rw [hj] at h
      have h' : (dDo row (dAns row d)).bind (fun r => oRun l r O) = some r := h
      cases hd : dDo row (dAns row d) with
      | none => rw [hd] at h'; cases h'
      | some r1 =>
        rw [hd] at h'
        have h1 := oRun_len (show oRun l r1 O = some r from h')
        have h2 := dDo_len hd
        rw [List.length_cons]
        omega
theorem nodup_eq {O : List Nat} (hn : O.Nodup) {p q i : Nat} (hp : O[p]? = some i) (hq : O[q]? = some i) : p = q := by
  obtain ⟨h1, h2⟩ := List.getElem?_eq_some_iff.1 hp
  obtain ⟨h3, h4⟩ := List.getElem?_eq_some_iff.1 hq
  rcases Nat.lt_trichotomy p q with h | h | h
  · exact absurd (h2.trans h4.symm) (List.pairwise_iff_getElem.1 hn p q h1 h3 h)
  · exact h
  · exact absurd (h4.trans h2.symm) (List.pairwise_iff_getElem.1 hn q p h3 h1 h)
theorem atO_val {O : List Nat} (hn : O.Nodup) {q k : Nat} (hq : O[q]? = some k) : ∀ n, q < n → atO O n k = (q : Int) + 1
  | 0, h => absurd h (Nat.not_lt_zero _)
  | n + 1, h => by
    rw [atO]
    by_cases e : O[n]? = some k
    · rw [if_pos e, nodup_eq hn e hq]
    · rw [if_neg e]
      exact atO_val hn hq n (by
        have : q ≠ n := fun h => e (h ▸ hq)
        omega)
theorem atO_not {O : List Nat} {k : Nat} : ∀ n, (∀ q, q < n → O[q]? ≠ some k) → atO O n k = 0
  | 0, _ => rfl
  | n + 1, h => by
    rw [atO, if_neg (h n (by omega))]
    exact atO_not n (fun q hq => h q (by omega))
theorem atO_in {O : List Nat} {k : Nat} : ∀ n, atO O n k ≠ 0 → ∃ q, q < n ∧ O[q]? = some k
  | 0, h => absurd rfl h
  | n + 1, h => by
    rw [atO] at h
    by_cases e : O[n]? = some k
    · exact ⟨n, by omega, e⟩
    · rw [if_neg e] at h
      obtain ⟨q, h1, h2⟩ := atO_in n h
      exact ⟨q, by omega, h2⟩
theorem atO_bd {O : List Nat} : ∀ (n k : Nat), 0 ≤ atO O n k ∧ atO O n k ≤ n
  | 0, k => ⟨Int.le_refl _, Int.le_refl _⟩
  | n + 1, k => by
    have h := atO_bd (O := O) n k
    rw [atO]
    split <;> omega

/-- The places of all. -/
def atL (len : Nat) (O : List Nat) (n : Nat) : List Int := (List.range len).map (atO O n)
theorem atL_len (len : Nat) (O : List Nat) (n : Nat) : (atL len O n).length = len := by
  unfold atL
  simp
theorem atL_get {len k : Nat} (O : List Nat) (n : Nat) (hk : k < len) : (atL len O n).getD k 0 = atO O n k := by
  unfold atL
  rw [List.getD_eq_getElem?_getD, List.getElem?_map, List.getElem?_range hk]
  rfl
theorem atL_succ {len n i : Nat} {O : List Nat} (hi : O[n]? = some i) : (atL len O n).set i ((n : Int) + 1) = atL len O (n + 1) := by
  refine List.ext_getElem? (fun k => ?_)
  unfold atL
  rw [List.getElem?_set, List.getElem?_map, List.getElem?_map, List.length_map, List.length_range]
  rcases Nat.lt_or_ge k len with hk | hk
  · rw [List.getElem?_range hk]
    by_cases e : i = k
    · subst e
      rw [if_pos rfl, if_pos hk]
      show some _ = some (atO O (n + 1) i)
      rw [atO, if_pos hi]
    · rw [if_neg e]
      show some _ = some (atO O (n + 1) k)
      rw [atO, if_neg (fun h => e (by rw [hi] at h; cases h; rfl))]
  · rw [List.getElem?_eq_none (by simpa using hk)]
    by_cases e : i = k
    · subst e
      rw [if_pos rfl, if_neg (by omega)]
      rfl
    · rw [if_neg e]
      rfl
theorem made_i64s (n : Nat) : (madeCells (Value.int .i64 0).cells (n * 1)).toList = (List.replicate n (0 : Int)).map i64 := by
  rw [Nat.mul_one, List.map_replicate]
  exact toList_madeCells_one (.int .i64 0) n
theorem atL_zero (len : Nat) (O : List Nat) : atL len O 0 = List.replicate len 0 := by
  refine List.ext_getElem? (fun k => ?_)
  unfold atL
  rw [List.getElem?_map, List.getElem?_replicate]
  rcases Nat.lt_or_ge k len with hk | hk
  · rw [List.getElem?_range hk, if_pos hk]
    rfl
  · rw [List.getElem?_eq_none (by simpa using hk), if_neg (by omega)]
    rfl

theorem IsU.setC {w : World} {a : Option Addr} {R : List Int} {b : Nat} (h : IsU w a R) (hne : ∀ k off, a = some ⟨k, off, none⟩ → k ≠ b) (j : Nat) (u : Value) : IsU (w.setCell ⟨b, j, none⟩ u) a R := fun hp => by
  obtain ⟨g, off, h1, h2, h3⟩ := h hp
  have hg := hne g off h1
  refine ⟨g, off, h1, by simpa [World.setCell] using h2, fun i hi => ?_⟩
  rw [World.cell?_setCell_other _ _ _ _ (fun e => hg (by injection e with e1; exact e1.symm))]
  exact h3 i hi

set_option maxRecDepth 100000 in
set_option maxHeartbeats 8000000 in
theorem holds_any (w : World) (a0 : Option Addr) (len cap0 tb off : Nat) (l : List Dd) (A : Option Addr) (c : Nat) (O : List Nat) (base : Nat) (hl : IsDds w a0 len cap0 tb off l) (hn : len ≤ 1000) (he : ∀ d ∈ l, d.e = 0 ∨ d.e = 1) (hO : w.ownsRow base 3 1 (.slice A O.length c) O.length (O.map (fun i : Nat => i64 (i : Int)))) (hh : Holds l (fun _ => False) [] O) :
    Calls Try.prog 18 #[.slice a0 len cap0, .slice A O.length c] w fun r w' => r = .returned (.bool true) ∧ Below w.heap.size w w' := by
  have HL := Lib.hid hl
  have HE := Lib.hid he
  have HH := Lib.hid hh
  have hcp := hl.2.1
  obtain ⟨rr, hrr⟩ := hh.run
  have HIN : Hid (∀ i ∈ O, i < len) := fun i hi => by have := oRun_in hrr i hi; have := HL.out.1; omega
  have HRR := Lib.hid hrr
  have hoc : O.length ≤ c := by
    rcases Nat.eq_zero_or_pos O.length with h0 | h0
    · omega
    · obtain ⟨g, cp, hv, hc, _⟩ := row_shape hO h0
      cases hv
      exact hc
  have HO := Lib.hid hO
  obtain ⟨ol, hol⟩ : ∃ ol, O.length = ol := ⟨_, rfl⟩
  have HOL := Lib.hid hol
  have hol2 : ol ≤ len := by
    rw [← hol]
    have h1 := List.Nodup.length_le_of_subset hh.nodup (fun i hi => List.mem_range.2 (HIN.out i hi))
    rwa [List.length_range] at h1
  rw [hol] at hoc HO ⊢
  obtain ⟨ii, hi0, hz0, hz1, hz2⟩ := elem_i64.info
  clear hl he hh hrr hO hol
  go_enter Try.func18, Try.ntmps18
  go_wp2_with (at_make; refine wpList_make_full _ rfl _ _ 40 rfl w.heap.size 3 ii (.int .i64 0) 1 elem_i64.und hi0 hz0 hz1 .i64 .i64 _ _ len rfl rfl rfl rfl (by rw [hz2]; omega) (by unfold maxLen; omega) (by simp) ?_; intro w1 hown hgrow)
  have hb1 : Below w.heap.size w w1 := (below_new (Below.refl w.heap.size w) (.cells #[] 25)).grown hgrow (by simp) (fun k hk => by cases hk)
  rw [made_i64s, ← atL_zero len O, World.size_alloc] at hown
  have HB0 := Lib.hid hb1
  have HA0 := Lib.hid hown
  clear hown hgrow hb1 hi0 hz0 hz1 hz2
  go_loopw [5, 21] (fun rv iw wr => ∃ (n : Nat) (R : List Int) (a : Option Addr) (cR : Nat), n ≤ ol ∧ rv = .slice a R.length cR ∧ R.length ≤ cR ∧ iw = .int .i64 n ∧ Hid (Below w.heap.size w wr) ∧ Hid (IsU wr a R ∧ oRun l [] (O.take n) = some R ∧ ∀ k off, a = some ⟨k, off, none⟩ → k ≠ w.heap.size + 1) ∧ Hid (wr.ownsRow w.heap.size 3 1 (.slice (some ⟨w.heap.size + 1, 0, none⟩) len len) len ((atL len O n).map i64))) (fun _ iw _ => ol - (RowKit.intOf iw).toNat)
  case atStart => exact ⟨0, [], _, 0, Nat.zero_le _, rfl, Nat.le_refl _, rfl, HB0, ⟨IsU.nil _ _, by rw [List.take_zero]; rfl, fun k off h => by cases h; omega⟩, HA0⟩
  case round =>
    clear HB0 HA0
    obtain ⟨n, R, a, cR, hnl, rfl, hRc, rfl, HB, HR, HA⟩ := hrel
    have hRn : R.length ≤ n := by
      have := oRun_len HR.out.2.1
      rw [List.length_take, List.length_nil] at this
      omega
    rcases Nat.lt_or_ge n ol with hno | hno
    · have hno' : (n : Int) < (ol : Int) := by omega
      obtain ⟨i, hi⟩ : ∃ i, O[n]? = some i := ⟨_, List.getElem?_eq_getElem (by rw [HOL.out]; exact hno)⟩
      have hil := HIN.out i (List.mem_of_getElem? hi)
      obtain ⟨d, hd⟩ : ∃ d, l[i]? = some d := ⟨_, List.getElem?_eq_getElem (by rw [HL.out.1]; exact hil)⟩
      obtain ⟨rfl, htb⟩ := HL.out.2.2.1 (by omega)
      obtain ⟨gO, cpO, hvO, hcO, hgO⟩ := row_shape HO.out (by omega)
      cases hvO
      have k0 := (HB.out.cell (p := ⟨gO, n, none⟩) hgO).trans (row_int HO.out hno)
      rw [show O.getD n 0 = i by rw [List.getD_eq_getElem?_getD, hi]; rfl] at k0
      have k1 : wr.cell? ⟨w.heap.size + 1, i, none⟩ = some (.int .i64 0) := by
        have := row_at (k := .i64) HA.out hil
        rw [atL_get O n hil, atO_not n (fun q hq hh => by have := nodup_eq HH.out.nodup hi hh; omega)] at this
        exact this
      have z1 := HA.out.frozenAt i
      obtain ⟨d0, d1, d2, d3, d4, d5, d6, d7, d8, d9, d10⟩ := ((HL.out.later HB.out (fun _ => htb)).2.2.2 i d hd).1
      have hne1 : ¬ tb = w.heap.size + 1 := by omega
      have hne2 : ¬ w.heap.size + 1 = tb := by omega
      have hi0 : ¬ (i : Int) < 0 := by omega
      have hi1 : ¬ (len : Int) ≤ (i : Int) := by omega
      have hi2 : (i : Int) < (len : Int) := by omega
      have HIO := Lib.hid hi
      have HD := Lib.hid hd
      have hde := HE.out d (List.mem_of_getElem? hd)
      have HDE := Lib.hid hde
      have hgA : w.heap.size + 1 < wr.heap.size := World.block_lt_of_cell? wr _ k1
      have HGA := Lib.hid hgA
      have HU7 := Lib.hid (IsU.setC HR.out.1 HR.out.2.2 i (.int .i64 ((n : Int) + 1)))
      have hA7 := (HA.out.stored i (.int .i64 ((n : Int) + 1))).1
      rw [← show ((atL len O n).set i ((n : Int) + 1)).map i64 = ((atL len O n).map i64).set i (.int .i64 ((n : Int) + 1)) from List.map_set, atL_succ hi] at hA7
      have HA7 := Lib.hid hA7
      have HB7 := Lib.hid (below_set HB.out (p := ⟨w.heap.size + 1, i, none⟩) (by show w.heap.size ≤ w.heap.size + 1; omega) (.int .i64 ((n : Int) + 1)))
      have hsz : (wr.setCell ⟨w.heap.size + 1, i, none⟩ (.int .i64 ((n : Int) + 1))).heap.size = wr.heap.size := by simp [World.setCell]
      have HSZ := Lib.hid hsz
      clear hi hd hde hA7 hsz
      go_wp2_with fail
      refine (lanswered_any _ a cR R d HU7.out hRc (by omega) HDE.out).mono ?_
      rintro r w4 ⟨rfl, hb4⟩
      have HU4 := Lib.hid (HU7.out.later hb4)
      have HB4 := Lib.hid (below_step HB7.out hb4)
      have HA4 : Hid (w4.ownsRow w.heap.size 3 1 (.slice (some ⟨w.heap.size + 1, 0, none⟩) len len) len ((atL len O (n + 1)).map i64)) := (Keep.of_below (T := fun _ => False) hb4).row HA7.out (fun _ _ h => h)
      have HS4 : Hid (wr.heap.size ≤ w4.heap.size) := by
        have h1 := hb4.size
        rw [HSZ.out] at h1
        exact h1
      clear hb4 HU7 HB7 HA7 d0 d1 d2 d3 d4 d5 d6 d7 d8 d9 d10 k0 k1 z1 hgA
      obtain ⟨R', hR'⟩ : ∃ R', dDo R (dAns R d) = some R' := by
        obtain ⟨r2, h2⟩ := oRun_take (n + 1) HRR.out
        have h3 := oRun_snoc (i := i) HR.out.2.1
        rw [List.take_add_one, HIO.out] at h2
        rw [HD.out] at h3
        exact ⟨r2, h3.symm.trans h2⟩
      have HRN : Hid (oRun l [] (O.take (n + 1)) = some R') := by
        have h3 := oRun_snoc (i := i) HR.out.2.1
        rw [HD.out] at h3
        show _ = _
        rw [List.take_add_one, HIO.out]
        exact h3.trans hR'
      obtain ⟨dA, hdA⟩ : ∃ dA, dAns R d = dA := ⟨_, rfl⟩
      rw [hdA] at hR' ⊢
      have HR' := Lib.hid hR'
      clear hdA hR'
      go_wp2_with fail
      refine (ldo2_any _ a cR R dA HU4.out hRc (by omega)).mono ?_
      rintro r w5 ⟨hb5, a', n', c', ok, rfl, h1, _, hf⟩
      obtain ⟨rfl, rfl, hnc, hU'⟩ := h1 R' HR'.out
      have HB5 := Lib.hid (below_step HB4.out hb5)
      have HA5 : Hid (w5.ownsRow w.heap.size 3 1 (.slice (some ⟨w.heap.size + 1, 0, none⟩) len len) len ((atL len O (n + 1)).map i64)) := (Keep.of_below (T := fun _ => False) hb5).row HA4.out (fun _ _ h => h)
      have HR5 : Hid (IsU w5 a' R' ∧ oRun l [] (O.take (n + 1)) = some R' ∧ ∀ k off, a' = some ⟨k, off, none⟩ → k ≠ w.heap.size + 1) := ⟨hU', HRN.out, fun k off hk => by
        rcases hf rfl k off hk with ⟨off', h2⟩ | h2
        · exact HR.out.2.2 k off' h2
        · have := HS4.out
          have := HGA.out
          omega⟩
      clear hb5 h1 hf hU' HA4 HB4 HU4
      go_wp2_with fail
      go_roundw
      case rel => exact ⟨n + 1, R', a', c', by omega, rfl, hnc, by go_num, HB5, HR5, HA5⟩
      case measure => first | omega | (simp [RowKit.intOf]; done) | (simp [RowKit.intOf]; omega)
    · obtain rfl : n = ol := by omega
      have hnl2 : ¬ (n : Int) < (n : Int) := by omega
      clear HR
      go_wp2_with fail
      have HX0 := Lib.hid (Below.refl wr.heap.size wr)
      have HAW := Lib.hid HA.out
      clear HA
      have HEND : Hid (∀ (k q : Nat), O[q]? = some k → atO O n k = (q : Int) + 1) := fun k q hq => atO_val HH.out.nodup hq n (by rw [← HOL.out]; exact (List.getElem?_eq_some_iff.1 hq).1)
      generalize wr = W2 at HX0 HAW HB ⊢
      have HAT : Hid (∀ w', Below W2.heap.size W2 w' → ∀ k, k < len → w'.cell? ⟨w.heap.size + 1, k, none⟩ = some (.int .i64 (atO O n k)) ∧ w.heap.size + 1 < w'.heap.size) := fun w' hb' k hk => by
        have h1 := row_at (k := .i64) HAW.out hk
        rw [atL_get O n hk] at h1
        have h2 := (hb'.cell (p := ⟨w.heap.size + 1, k, none⟩) (World.block_lt_of_cell? W2 _ h1)).trans h1
        exact ⟨h2, World.block_lt_of_cell? w' _ h2⟩
      clear HAW
      go_loopw [63] (fun iw wr => ∃ i : Nat, i ≤ len ∧ iw = .int .i64 i ∧ Hid (Below W2.heap.size W2 wr)) (fun iw _ => len - (RowKit.intOf iw).toNat)
      case atStart => exact ⟨0, Nat.zero_le _, rfl, HX0⟩
      case round =>
        clear HX0
        obtain ⟨i, hi, rfl, HX⟩ := hrel
        rcases Nat.lt_or_ge i len with hil | hil
        · have hil' : (i : Int) < (len : Int) := by omega
          obtain ⟨d, hd⟩ : ∃ d, l[i]? = some d := ⟨_, List.getElem?_eq_getElem (by rw [HL.out.1]; exact hil)⟩
          obtain ⟨rfl, htb⟩ := HL.out.2.2.1 (by omega)
          obtain ⟨d0, d1, d2, d3, d4, d5, d6, d7, d8, d9, d10⟩ := ((HL.out.later (HB.out.trans (HX.out.mono HB.out.size)) (fun _ => htb)).2.2.2 i d hd).1
          obtain ⟨k0, kl⟩ := HAT.out _ HX.out i hil
          have HXN := Lib.hid (below_new HX.out (d.obj 33))
          have HDB := Lib.hid (AtBd.made wr d 33)
          have HD := Lib.hid hd
          clear hd
          obtain ⟨v, hv⟩ : ∃ v, atO O n i = v := ⟨_, rfl⟩
          have HV := Lib.hid hv
          rw [hv] at k0
          have hin : 0 ≤ d.till → v ≠ 0 := fun ht => by
            obtain ⟨q, hq⟩ := List.mem_iff_getElem?.1 ((HH.out.all i d HD.out ht).resolve_left id)
            rw [← HV.out, HEND.out i q hq]
            omega
          have HINN := Lib.hid hin
          clear hv hin
          by_cases ht : 0 ≤ d.till
          case neg =>
            have e1 : decide (0 ≤ d.till) = false := decide_eq_false ht
            clear ht
            go_wp2_with fail
            have HXI := Lib.hid HXN.out
            have HDI := Lib.hid HDB.out
            clear d0 d1 d2 d3 d4 d5 d6 d7 d8 d9 d10 k0 kl HDB HXN HX
            generalize wr.heap.size = B at HDI ⊢
            go_loopw [80] (fun kw wy => ∃ k : Nat, k ≤ len ∧ kw = .int .i64 k ∧ Hid (Below W2.heap.size W2 wy) ∧ Hid (AtBd wy B d)) (fun kw _ => len - (RowKit.intOf kw).toNat)
            case atStart => exact ⟨0, Nat.zero_le _, rfl, HXI, HDI⟩
            case round =>
              clear HXI HDI
              obtain ⟨k, hk, rfl, HXI, HDI⟩ := hrel
              rcases Nat.lt_or_ge k len with hkl | hkl
              · have hkl' : (k : Int) < (len : Int) := by omega
                obtain ⟨od, hod⟩ : ∃ d, l[k]? = some d := ⟨_, List.getElem?_eq_getElem (by rw [HL.out.1]; exact hkl)⟩
                obtain ⟨f0, f1, f2, f3, f4, f5, f6, f7, f8, f9, f10⟩ := ((HL.out.later (HB.out.trans (HXI.out.mono HB.out.size)) (fun _ => htb)).2.2.2 k od hod).1
                obtain ⟨k0, kl⟩ := HAT.out _ HXI.out k hkl
                obtain ⟨k1, _⟩ := HAT.out _ HXI.out i hil
                rw [HV.out] at k1
                have d5 := HDI.out.c5
                have d6 := HDI.out.c6
                have hBl := HDI.out.lt
                have hbn := below_new (Below.refl wr.heap.size wr) (od.obj 33)
                have HXN := Lib.hid (below_step HXI.out hbn)
                have HDN := Lib.hid (HDI.out.later hbn)
                have HOD := Lib.hid hod
                clear hod hbn
                go_wp2_with fail
                refine wp_region_seq ((0, true) :: (1, true) :: (2, true) :: (3, true) :: (4, true) :: (5, true) :: (6, true) :: (7, true) :: (8, true) :: (9, true) :: (10, true) :: (11, true) :: (12, true) :: (13, true) :: (14, true) :: (15, true) :: (16, true) :: (17, true) :: (18, true) :: (19, true) :: (20, true) :: (21, true) :: (22, true) :: (23, true) :: (24, true) :: (25, true) :: (26, true) :: (27, true) :: []) (by kernel_rfl) (by kernel_rfl) (by kernel_rfl) (by decide) (fun _ _ _ _ _ h => h) (fun hHeld => ?_)
                repeat (first
                  | (refine seq_take (v := ?_) rfl ?_ ?_ ?_; rotate_left 1; rfl; (focus (intro wS hSw; have hk := below_rule hSw; go_simp; first | done | with_reducible rfl)); (try simp only [Act.put, List.setIfInBounds_toArray, List.set_cons_zero, List.set_cons_succ]))
                  | (refine seq_skip rfl ?_ ?_; rfl; (try simp only [Act.put, List.setIfInBounds_toArray, List.set_cons_zero, List.set_cons_succ]))
                  | (refine seq_run rfl (fun K hK => ?_); go_simp; (try skip); (try go_wp2_with fail); refine hK.out _ _ ?_ ?_; (focus (first | exact below_step hHeld hb' | exact below_new hHeld _ | exact hHeld)); (try clear hb'); clear hHeld hK K; intro hHeld; (try simp only [Act.put, List.setIfInBounds_toArray, List.set_cons_zero, List.set_cons_succ])))
                first | refine seq_done ?_ | skip
                have HXX := Lib.hid (below_step HXN.out hHeld)
                have HDX := Lib.hid (HDN.out.later hHeld)
                clear hHeld
                go_wp2_with fail
                go_roundw
                case rel => exact ⟨k + 1, by omega, by go_num, HXX, HDX⟩
                case measure => first | omega | (simp [RowKit.intOf]; done) | (simp [RowKit.intOf]; omega)
              · obtain rfl : k = len := by omega
                have hnk : ¬ (k : Int) < (k : Int) := by omega
                go_wp2_with fail
                go_roundw
                case rel => exact ⟨i + 1, by omega, by go_num, HXI⟩
                case measure => first | omega | (simp [RowKit.intOf]; done) | (simp [RowKit.intOf]; omega)
          case pos =>
            have e1 : decide (0 ≤ d.till) = true := decide_eq_true ht
            have hv0 := HINN.out ht
            have e2 : (v == 0) = false := beq_false_of_ne hv0
            have HT := Lib.hid ht
            clear ht hv0
            go_wp2_with fail
            have HXI := Lib.hid HXN.out
            have HDI := Lib.hid HDB.out
            clear d0 d1 d2 d3 d4 d5 d6 d7 d8 d9 d10 k0 kl HDB HXN HX
            generalize wr.heap.size = B at HDI ⊢
            go_loopw [80] (fun kw wy => ∃ k : Nat, k ≤ len ∧ kw = .int .i64 k ∧ Hid (Below W2.heap.size W2 wy) ∧ Hid (AtBd wy B d)) (fun kw _ => len - (RowKit.intOf kw).toNat)
            case atStart => exact ⟨0, Nat.zero_le _, rfl, HXI, HDI⟩
            case round =>
              clear HXI HDI
              obtain ⟨k, hk, rfl, HXI, HDI⟩ := hrel
              rcases Nat.lt_or_ge k len with hkl | hkl
              · have hkl' : (k : Int) < (len : Int) := by omega
                obtain ⟨od, hod⟩ : ∃ d, l[k]? = some d := ⟨_, List.getElem?_eq_getElem (by rw [HL.out.1]; exact hkl)⟩
                obtain ⟨f0, f1, f2, f3, f4, f5, f6, f7, f8, f9, f10⟩ := ((HL.out.later (HB.out.trans (HXI.out.mono HB.out.size)) (fun _ => htb)).2.2.2 k od hod).1
                obtain ⟨k0, kl⟩ := HAT.out _ HXI.out k hkl
                obtain ⟨k1, _⟩ := HAT.out _ HXI.out i hil
                rw [HV.out] at k1
                have d5 := HDI.out.c5
                have d6 := HDI.out.c6
                have hBl := HDI.out.lt
                have hbn := below_new (Below.refl wr.heap.size wr) (od.obj 33)
                have HXN := Lib.hid (below_step HXI.out hbn)
                have HDN := Lib.hid (HDI.out.later hbn)
                have HOD := Lib.hid hod
                clear hod hbn
                by_cases hb : d.till < od.fr
                case neg =>
                  have e3 : decide (d.till < od.fr) = false := decide_eq_false hb
                  clear hb
                  go_wp2_with fail
                  refine wp_region_seq ((0, true) :: (1, true) :: (2, true) :: (3, true) :: (4, true) :: (5, true) :: (6, true) :: (7, true) :: (8, true) :: (9, true) :: (10, true) :: (11, true) :: (12, true) :: (13, true) :: (14, true) :: (15, true) :: (16, true) :: (17, true) :: (18, true) :: (19, true) :: (20, true) :: (21, true) :: (22, true) :: (23, true) :: (24, true) :: (25, true) :: (26, true) :: (27, true) :: []) (by kernel_rfl) (by kernel_rfl) (by kernel_rfl) (by decide) (fun _ _ _ _ _ h => h) (fun hHeld => ?_)
                  repeat (first
                    | (refine seq_take (v := ?_) rfl ?_ ?_ ?_; rotate_left 1; rfl; (focus (intro wS hSw; have hk := below_rule hSw; go_simp; first | done | with_reducible rfl)); (try simp only [Act.put, List.setIfInBounds_toArray, List.set_cons_zero, List.set_cons_succ]))
                    | (refine seq_skip rfl ?_ ?_; rfl; (try simp only [Act.put, List.setIfInBounds_toArray, List.set_cons_zero, List.set_cons_succ]))
                    | (refine seq_run rfl (fun K hK => ?_); go_simp; (try skip); (try go_wp2_with fail); refine hK.out _ _ ?_ ?_; (focus (first | exact below_step hHeld hb' | exact below_new hHeld _ | exact hHeld)); (try clear hb'); clear hHeld hK K; intro hHeld; (try simp only [Act.put, List.setIfInBounds_toArray, List.set_cons_zero, List.set_cons_succ])))
                  first | refine seq_done ?_ | skip
                  have HXX := Lib.hid (below_step HXN.out hHeld)
                  have HDX := Lib.hid (HDN.out.later hHeld)
                  clear hHeld
                  go_wp2_with fail
                  go_roundw
                  case rel => exact ⟨k + 1, by omega, by go_num, HXX, HDX⟩
                  case measure => first | omega | (simp [RowKit.intOf]; done) | (simp [RowKit.intOf]; omega)
                case pos =>
                  have e3 : decide (d.till < od.fr) = true := decide_eq_true hb
                  have HBF := Lib.hid hb
                  clear hb
                  obtain ⟨vk, hvk⟩ : ∃ vk, atO O n k = vk := ⟨_, rfl⟩
                  rw [hvk] at k0
                  have HVK := Lib.hid hvk
                  clear hvk
                  by_cases hv : vk = 0
                  case pos =>
                    have e4 : (vk == 0) = true := beq_iff_eq.2 hv
                    have e4b : (vk != 0) = false := by rw [bne, e4]; rfl
                    clear hv
                    go_wp2_with fail
                    refine wp_region_seq ((0, true) :: (1, true) :: (2, true) :: (3, true) :: (4, true) :: (5, true) :: (6, true) :: (7, true) :: (8, true) :: (9, true) :: (10, true) :: (11, true) :: (12, true) :: (13, true) :: (14, true) :: (15, true) :: (16, true) :: (17, true) :: (18, true) :: (19, true) :: (20, true) :: (21, true) :: (22, true) :: (23, true) :: (24, true) :: (25, true) :: (26, true) :: (27, true) :: []) (by kernel_rfl) (by kernel_rfl) (by kernel_rfl) (by decide) (fun _ _ _ _ _ h => h) (fun hHeld => ?_)
                    repeat (first
                      | (refine seq_take (v := ?_) rfl ?_ ?_ ?_; rotate_left 1; rfl; (focus (intro wS hSw; have hk := below_rule hSw; go_simp; first | done | with_reducible rfl)); (try simp only [Act.put, List.setIfInBounds_toArray, List.set_cons_zero, List.set_cons_succ]))
                      | (refine seq_skip rfl ?_ ?_; rfl; (try simp only [Act.put, List.setIfInBounds_toArray, List.set_cons_zero, List.set_cons_succ]))
                      | (refine seq_run rfl (fun K hK => ?_); go_simp; (try skip); (try go_wp2_with fail); refine hK.out _ _ ?_ ?_; (focus (first | exact below_step hHeld hb' | exact below_new hHeld _ | exact hHeld)); (try clear hb'); clear hHeld hK K; intro hHeld; (try simp only [Act.put, List.setIfInBounds_toArray, List.set_cons_zero, List.set_cons_succ])))
                    first | refine seq_done ?_ | skip
                    have HXX := Lib.hid (below_step HXN.out hHeld)
                    have HDX := Lib.hid (HDN.out.later hHeld)
                    clear hHeld
                    go_wp2_with fail
                    go_roundw
                    case rel => exact ⟨k + 1, by omega, by go_num, HXX, HDX⟩
                    case measure => first | omega | (simp [RowKit.intOf]; done) | (simp [RowKit.intOf]; omega)
                  case neg =>
                    have e4 : (vk == 0) = false := beq_false_of_ne hv
                    have e4b : (vk != 0) = true := by rw [bne, e4]; rfl
                    have e5 : decide (vk < v) = false := decide_eq_false (by
                      obtain ⟨q, _, hq⟩ := atO_in n (by rw [HVK.out]; exact hv)
                      rcases HH.out.ahead q k i od d hq HOD.out HD.out ⟨HT.out, HBF.out⟩ with h | ⟨p, hp, hpi⟩
                      · exact h.elim
                      · have a1 := HEND.out k q hq
                        have a2 := HEND.out i p hpi
                        rw [HVK.out] at a1
                        rw [HV.out] at a2
                        omega)
                    clear hv
                    go_wp2_with fail
                    refine wp_region_seq ((0, true) :: (1, true) :: (2, true) :: (3, true) :: (4, true) :: (5, true) :: (6, true) :: (7, true) :: (8, true) :: (9, true) :: (10, true) :: (11, true) :: (12, true) :: (13, true) :: (14, true) :: (15, true) :: (16, true) :: (17, true) :: (18, true) :: (19, true) :: (20, true) :: (21, true) :: (22, true) :: (23, true) :: (24, true) :: (25, true) :: (26, true) :: (27, true) :: []) (by kernel_rfl) (by kernel_rfl) (by kernel_rfl) (by decide) (fun _ _ _ _ _ h => h) (fun hHeld => ?_)
                    repeat (first
                      | (refine seq_take (v := ?_) rfl ?_ ?_ ?_; rotate_left 1; rfl; (focus (intro wS hSw; have hk := below_rule hSw; go_simp; first | done | with_reducible rfl)); (try simp only [Act.put, List.setIfInBounds_toArray, List.set_cons_zero, List.set_cons_succ]))
                      | (refine seq_skip rfl ?_ ?_; rfl; (try simp only [Act.put, List.setIfInBounds_toArray, List.set_cons_zero, List.set_cons_succ]))
                      | (refine seq_run rfl (fun K hK => ?_); go_simp; (try skip); (try go_wp2_with fail); refine hK.out _ _ ?_ ?_; (focus (first | exact below_step hHeld hb' | exact below_new hHeld _ | exact hHeld)); (try clear hb'); clear hHeld hK K; intro hHeld; (try simp only [Act.put, List.setIfInBounds_toArray, List.set_cons_zero, List.set_cons_succ])))
                    first | refine seq_done ?_ | skip
                    have HXX := Lib.hid (below_step HXN.out hHeld)
                    have HDX := Lib.hid (HDN.out.later hHeld)
                    clear hHeld
                    go_wp2_with fail
                    go_roundw
                    case rel => exact ⟨k + 1, by omega, by go_num, HXX, HDX⟩
                    case measure => first | omega | (simp [RowKit.intOf]; done) | (simp [RowKit.intOf]; omega)
              · obtain rfl : k = len := by omega
                have hnk : ¬ (k : Int) < (k : Int) := by omega
                go_wp2_with fail
                go_roundw
                case rel => exact ⟨i + 1, by omega, by go_num, HXI⟩
                case measure => first | omega | (simp [RowKit.intOf]; done) | (simp [RowKit.intOf]; omega)
        · obtain rfl : i = len := by omega
          have hnl3 : ¬ (i : Int) < (i : Int) := by omega
          go_wp2_with fail
          go_ret
          exact ⟨rfl, HB.out.trans (HX.out.mono HB.out.size)⟩
end Go.Proofs.Ytgoncakjkippkaa
