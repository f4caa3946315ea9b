/-
  PickMirror answers true for every list of words, and leaves all memory that was there as it was. No condition.
-/
import Derived.Test.YthncappmjdgmnaaPickRow
import Derived.Deep.DeepCutAuto
namespace Go.Proofs.Ythncappmjdgmnaa
open Go.RowKit
set_option linter.unusedVariables false
attribute [local go_sem ↓] fld0 fld1 fld3

/-- A word whose end is changed about; of what isn't live, a word that isn't live. -/
def turnW (x : Int) : Int := if x % 4 = 1 then 1 + 4 * otherE (x / 4 % 2) + 8 * (x / 8 % 8192) + 65536 * (x / 65536 % 16777216) + 1099511627776 * (x / 1099511627776) else 4
theorem otherE_cases (e : Int) (he : e = 0 ∨ e = 1) : (e = 0 ∧ otherE e = 1) ∨ (e = 1 ∧ otherE e = 0) := by
  rcases he with rfl | rfl
  · exact .inl ⟨rfl, rfl⟩
  · exact .inr ⟨rfl, rfl⟩
theorem turnW_live {x : Int} (x0 : 0 ≤ x) (x1 : x ≤ 18446744073709551615) (h : x % 4 = 1) : turnW x % 4 = 1 ∧ turnW x / 4 % 2 = otherE (x / 4 % 2) ∧ turnW x / 65536 % 16777216 = x / 65536 % 16777216 ∧ turnW x / 1099511627776 = x / 1099511627776 ∧ 0 ≤ turnW x ∧ turnW x ≤ 18446744073709551615 := by
  unfold turnW
  rw [if_pos h]
  rcases otherE_cases (x / 4 % 2) (by omega) with ⟨h1, h2⟩ | ⟨h1, h2⟩ <;> rw [h2] <;> omega
theorem turnW_fit {x : Int} (x0 : 0 ≤ x) (x1 : x ≤ 18446744073709551615) : (turnW x % 4 = 1 ↔ x % 4 = 1) ∧ 0 ≤ turnW x ∧ turnW x ≤ 18446744073709551615 := by
  by_cases h : x % 4 = 1
  · obtain ⟨a, _, _, _, b, c⟩ := turnW_live x0 x1 h
    exact ⟨⟨fun _ => h, fun _ => a⟩, b, c⟩
  · unfold turnW
    rw [if_neg h]
    exact ⟨⟨fun h2 => by omega, fun h2 => absurd h2 h⟩, by decide, by decide⟩
theorem turnW_key {x : Int} {i : Nat} (x0 : 0 ≤ x) (x1 : x ≤ 18446744073709551615) (h : x % 4 = 1) : xkey (turnW x) i = -1 - xkey x i := by
  obtain ⟨_, a, b, c, _, _⟩ := turnW_live x0 x1 h
  unfold xkey pkey
  rw [a, b, c]
  rcases otherE_cases (x / 4 % 2) (by omega) with ⟨h1, h2⟩ | ⟨h1, h2⟩ <;> rw [h2, h1]
  · rw [if_neg (by decide), if_pos rfl]
    omega
  · rw [if_pos rfl, if_neg (by decide)]

/-- The first e of them. -/
def tws (ws : List Int) (e : Nat) : List Int := (List.range e).map (fun i => turnW (ws.getD i 0))
theorem tws_succ (ws : List Int) (e : Nat) : tws ws (e + 1) = tws ws e ++ [turnW (ws.getD e 0)] := by
  unfold tws
  rw [List.range_succ, List.map_append]
  rfl
theorem tws_len (ws : List Int) (e : Nat) : (tws ws e).length = e := by simp [tws]
theorem tws_get (ws : List Int) {e i : Nat} (h : i < e) : (tws ws e).getD i 0 = turnW (ws.getD i 0) := by
  unfold tws
  rw [List.getD_eq_getElem?_getD, List.getElem?_map, List.getElem?_range h]
  rfl
theorem tws_fit {ws : List Int} (hf : ∀ i, 0 ≤ ws.getD i 0 ∧ ws.getD i 0 ≤ 18446744073709551615) (e i : Nat) : 0 ≤ (tws ws e).getD i 0 ∧ (tws ws e).getD i 0 ≤ 18446744073709551615 := by
  by_cases h : i < e
  · rw [tws_get ws h]
    exact (turnW_fit (hf i).1 (hf i).2).2
  · rw [List.getD_eq_getElem?_getD, List.getElem?_eq_none (by rw [tws_len]; omega)]
    decide
/-- With all ends changed about the row stands the other way round. -/
theorem order_mirror {ws : List Int} {S : List Nat} (hf : ∀ i, 0 ≤ ws.getD i 0 ∧ ws.getD i 0 ≤ 18446744073709551615) (h : IsOrder ws S) : IsOrder (tws ws ws.length) S.reverse := by
  have hk : ∀ i, i ∈ S → wkey (tws ws ws.length) i = -1 - wkey ws i := fun i hi => by
    obtain ⟨h1, h2⟩ := (h.mem i).1 hi
    unfold wkey
    rw [tws_get ws h1]
    exact turnW_key (hf i).1 (hf i).2 h2
  refine ⟨?_, fun i => ?_⟩
  · rw [List.pairwise_reverse]
    refine List.Pairwise.imp_of_mem (fun {a b} ha hb hab => ?_) h.rise
    rw [hk a ha, hk b hb]
    omega
  · rw [List.mem_reverse, h.mem i, tws_len]
    constructor
    · rintro ⟨h1, h2⟩
      exact ⟨h1, by show (tws ws ws.length).getD i 0 % 4 = 1; rw [tws_get ws h1]; exact (turnW_fit (hf i).1 (hf i).2).1.2 h2⟩
    · rintro ⟨h1, h2⟩
      have h3 : (tws ws ws.length).getD i 0 % 4 = 1 := h2
      rw [tws_get ws h1] at h3
      exact ⟨h1, (turnW_fit (hf i).1 (hf i).2).1.1 h3⟩
theorem rev_get (S : List Nat) {i : Nat} (h : i < S.length) : S.reverse.getD (S.length - 1 - i) 0 = S.getD i 0 := by
  rw [List.getD_eq_getElem?_getD, List.getD_eq_getElem?_getD, List.getElem?_reverse (by omega)]
  congr 2
  omega

/-- A struct of the call's own is stored into. -/
theorem Hold.obj1 {W w : World} {A : Thing} {b : Nat} {xs : List Value} (h : Hold W w [A, tObj W.heap.size b xs]) (i : Nat) (u : Value) : Hold W (w.setCell ⟨b, i, none⟩ u) [A, tObj W.heap.size b (xs.set i u)] := by
  have ho : IsObj w b xs ∧ W.heap.size ≤ b := h.has 1 _ rfl
  have k : Keep (tObj W.heap.size b xs).F w (w.setCell ⟨b, i, none⟩ u) := (Keep.refl _ _).setCell ⟨b, i, none⟩ (by show b = b; rfl) u
  exact h.turn 1 rfl k (tObj_ok _ _ _) ⟨ho.1.set i u, ho.2⟩ (fun q hq => .inl hq)
theorem ws_of_own {w : World} {base : Nat} {e : TypeId} {A : Option Addr} {n cap : Nat} {ws : List Int} (h : w.ownsRow base e 1 (.slice A n cap) n (ws.map (Value.int .u64))) (hf : ∀ i, 0 ≤ ws.getD i 0 ∧ ws.getD i 0 ≤ 18446744073709551615) : IsWs w A ws := by
  have hl := h.1
  rw [List.length_map] at hl
  refine ⟨fun h0 => ?_, hf⟩
  obtain ⟨g, cp, hv, _, _⟩ := row_shape h (by omega)
  cases hv
  exact (ws_of_row h hf).has h0
theorem Hold.fst {W w : World} {a b : Thing} (h : Hold W w [a, b]) : Hold W w [a] := Hold.less (l := [a]) (m := [b]) h

set_option maxRecDepth 100000 in
set_option maxHeartbeats 8000000 in
theorem walk_PickMirror (a0 : Option Addr) (len0 cap0 : Nat) (w : World) (w0 : IsRows w [.inl .u64] a0 len0 cap0) :
    Calls Try.prog 7 #[.slice a0 len0 cap0] w fun e w' => e = .returned (.bool true) ∧ Below w.heap.size w w' := by
  obtain ⟨ws, rfl, hW⟩ := rows_words w0
  have hcapr : ws.length ≤ cap0 := w0.1
  clear w0
  have HW := Lib.hid hW
  clear hW
  by_cases hbig : 60 < ws.length
  · have hbig' : (60 : Int) < (ws.length : Int) := by omega
    go_enter Try.func7, Try.ntmps7
    go_wp2_with fail
    refine (head8_any _).mono ?_
    rintro e w1 ⟨rfl, hb1⟩
    go_wp2_with fail
    go_ret
    exact ⟨rfl, hb1⟩
  have p0 : decide ((60 : Int) < (ws.length : Int)) = false := decide_eq_false (by omega)
  obtain ⟨len, hlen⟩ : ∃ len : Nat, ws.length = len := ⟨_, rfl⟩
  have Hlen := Lib.hid hlen
  have hord := fun W => order_any W a0 cap0 ws
  rw [hlen] at hbig p0 hord hcapr ⊢
  have HORD := Lib.hid hord
  clear hlen hord
  go_enter Try.func7, Try.ntmps7
  go_wp2_with fail
  refine (head8_any _).mono ?_
  rintro e w1 ⟨rfl, hb1⟩
  have HB1 := Lib.hid hb1
  have HWo := Lib.hid (HW.out.later hb1)
  clear hb1
  go_wp2_with fail
  obtain ⟨wo, rfl⟩ : ∃ wo : World, wo = w1 := ⟨_, rfl⟩
  have H0 : Hid (Hold wo (wo.alloc (.cells #[] 29)) [tRow wo.heap.size 29 1 (.slice (some ⟨wo.heap.size, 0, none⟩) 0 0) 0 ((tws ws 0).map (Value.int .u64))]) :=
    Hold.more (l := []) (Hold.nil (Below.refl _ _)) (below_new (Below.refl _ _) (.cells #[] 29)) (tRow_ok _ _ _ _ _ _) (tRow_made wo _ 29 1 (Nat.le_refl _)) tRow_new
  go_loopw [3, 21] (fun vb i wr => ∃ (e : Nat), e ≤ len ∧ i = .int .i64 e ∧ Hid (Hold wo wr [tRow wo.heap.size 29 1 vb e ((tws ws e).map (Value.int .u64))])) (fun _ i _ => len - (intOf i).toNat)
  case atStart => exact ⟨0, by omega, rfl, H0⟩
  case round =>
    clear H0
    obtain ⟨e, he, rfl, HH⟩ := hrel
    have HRW : Hid (World.ownsRow _ _ _ _ _ _ _) := Hold.has HH.out 0 _ rfl
    obtain ⟨A, cp, rfl⟩ := own_shape HRW.out
    clear HRW
    rcases Nat.lt_or_ge e len with heN | heN
    · have heN' : (e : Int) < (len : Int) := by omega
      obtain ⟨b, off, rfl, hc⟩ := HWo.out.has (by have := Hlen.out; omega)
      have HC := Lib.hid hc
      have hx := (below_rule HH.out.below _ (by rw [hc e (by have := Hlen.out; omega)]; rfl)).trans (hc e (by have := Hlen.out; omega))
      have hf := HW.out.fit e
      obtain ⟨x, hxe⟩ : ∃ x : Int, ws.getD e 0 = x := ⟨_, rfl⟩
      rw [hxe] at hx hf
      obtain ⟨x0, x1⟩ := hf
      have HX := Lib.hid hxe
      clear hxe hc
      go_wp2_with fail
      refine (unpack_any x _ x0 x1).mono ?_
      rintro r w5 ⟨rfl, hb5⟩
      have HH5 := Lib.hid (HH.out.later hb5)
      have HH6 : Hid (Hold wo (w5.alloc (.cells #[.int .i64 (x % 4), .int .i64 (x / 4 % 2), .int .i64 (x / 8 % 8192), .int .i64 (x / 65536 % 16777216), .int .i64 (x / 1099511627776)] 34)) [tRow wo.heap.size 29 1 (.slice A e cp) e ((tws ws e).map (Value.int .u64)), tObj wo.heap.size w5.heap.size [i64 (x % 4), i64 (x / 4 % 2), i64 (x / 8 % 8192), i64 (x / 65536 % 16777216), i64 (x / 1099511627776)]]) :=
        Hold.more (l := [tRow wo.heap.size 29 1 (.slice A e cp) e ((tws ws e).map (Value.int .u64))]) HH5.out (below_new (Below.refl _ _) _) (tObj_ok _ _ _) ⟨IsObj.made w5 [i64 (x % 4), i64 (x / 4 % 2), i64 (x / 8 % 8192), i64 (x / 65536 % 16777216), i64 (x / 1099511627776)] 34, HH5.out.size⟩ (fun q hq => by cases hq; exact Nat.le_refl _)
      clear hb5 hx HH HH5
      go_upto_region 10 with (fail)
      generalize w5.alloc (.cells #[.int .i64 (x % 4), .int .i64 (x / 4 % 2), .int .i64 (x / 8 % 8192), .int .i64 (x / 65536 % 16777216), .int .i64 (x / 1099511627776)] 34) = w6 at HH6 ⊢
      generalize w5.heap.size = bw at HH6 ⊢
      clear w5
      by_cases h1 : x % 4 = 1
      · have h1' : (x % 4 != 1) = false := by simp [h1]
        have HTW : Hid (∀ W, Calls Try.prog 22 #[wd (x % 4) (otherE (x / 4 % 2)) (x / 8 % 8192) (x / 65536 % 16777216) (x / 1099511627776)] W fun r w' => r = .returned (.int .u64 (turnW x)) ∧ Below W.heap.size W w') := fun W => by
          have := pack_right 1 (otherE (x / 4 % 2)) (x / 8 % 8192) (x / 65536 % 16777216) (x / 1099511627776) W (by rcases otherE_cases (x / 4 % 2) (by omega) with ⟨_, h2⟩ | ⟨_, h2⟩ <;> rw [h2] <;> omega)
          unfold turnW
          rw [if_pos h1, h1]
          exact this
        obtain ⟨es, hes⟩ : ∃ q : Int, x / 4 % 2 = q := ⟨_, rfl⟩
        obtain ⟨eg, heg⟩ : ∃ q : Int, x / 8 % 8192 = q := ⟨_, rfl⟩
        obtain ⟨el, hel⟩ : ∃ q : Int, x / 65536 % 16777216 = q := ⟨_, rfl⟩
        obtain ⟨eh, heh⟩ : ∃ q : Int, x / 1099511627776 = q := ⟨_, rfl⟩
        rw [hes, heg, hel, heh] at HH6 HTW
        rw [hes, heg, hel, heh]
        rw [h1] at HH6 HTW h1' ⊢
        clear hes heg hel heh h1
        have c0 := (Hold.has HH6.out 1 _ rfl).1.at' 0 _ rfl
        go_wp2_with fail
        clear c0
        go_loopw [36] (fun jv wr => ∃ (d : Nat), d ≤ e ∧ jv = .int .i64 d ∧ Hid (Hold wo wr [tRow wo.heap.size 29 1 (.slice A e cp) e ((tws ws e).map (Value.int .u64)), tObj wo.heap.size bw [i64 1, i64 es, i64 eg, i64 el, i64 eh]])) (fun jv _ => e - (intOf jv).toNat)
        case atStart => exact ⟨0, by omega, rfl, HH6⟩
        case round =>
          clear HH6
          obtain ⟨d, hd, rfl, HH⟩ := hrel
          rcases Nat.lt_or_ge d e with hdN | hdN
          · have hdN' : (d : Int) < (e : Int) := by omega
            have zy := (below_rule HH.out.below _ (by rw [HC.out d (by have := Hlen.out; omega)]; rfl)).trans (HC.out d (by have := Hlen.out; omega))
            have hfy := HW.out.fit d
            obtain ⟨y, hye⟩ : ∃ y : Int, ws.getD d 0 = y := ⟨_, rfl⟩
            rw [hye] at zy hfy
            obtain ⟨y0, y1⟩ := hfy
            clear hye
            go_wp2_with fail
            refine (unpack_any y _ y0 y1).mono ?_
            rintro r w8 ⟨rfl, hb8⟩
            have HH8 := Lib.hid ((HH.out.later hb8).later (below_new (Below.refl _ _) (.cells #[.int .i64 (y % 4), .int .i64 (y / 4 % 2), .int .i64 (y / 8 % 8192), .int .i64 (y / 65536 % 16777216), .int .i64 (y / 1099511627776)] 34)))
            have Hv : Hid (IsObj (w8.alloc (.cells #[.int .i64 (y % 4), .int .i64 (y / 4 % 2), .int .i64 (y / 8 % 8192), .int .i64 (y / 65536 % 16777216), .int .i64 (y / 1099511627776)] 34)) w8.heap.size [i64 (y % 4), i64 (y / 4 % 2), i64 (y / 8 % 8192), i64 (y / 65536 % 16777216), i64 (y / 1099511627776)]) := IsObj.made w8 [i64 (y % 4), i64 (y / 4 % 2), i64 (y / 8 % 8192), i64 (y / 65536 % 16777216), i64 (y / 1099511627776)] 34
            clear hb8 HH zy
            go_upto_region 16 with (fail)
            generalize w8.alloc (.cells #[.int .i64 (y % 4), .int .i64 (y / 4 % 2), .int .i64 (y / 8 % 8192), .int .i64 (y / 65536 % 16777216), .int .i64 (y / 1099511627776)] 34) = w9 at HH8 Hv ⊢
            generalize w8.heap.size = bv at Hv ⊢
            clear w8
            obtain ⟨ys, hys⟩ : ∃ q : Int, y % 4 = q := ⟨_, rfl⟩
            obtain ⟨yl, hyl⟩ : ∃ q : Int, y / 65536 % 16777216 = q := ⟨_, rfl⟩
            obtain ⟨yh, hyh⟩ : ∃ q : Int, y / 1099511627776 = q := ⟨_, rfl⟩
            rw [hys, hyl, hyh] at Hv
            clear hys hyl hyh y0 y1
            have c0 := (Hold.has HH8.out 1 _ rfl).1.at' 0 _ rfl
            have c3 := (Hold.has HH8.out 1 _ rfl).1.at' 3 _ rfl
            have c4 := (Hold.has HH8.out 1 _ rfl).1.at' 4 _ rfl
            have d0 := Hv.out.at' 0 _ rfl
            have d3 := Hv.out.at' 3 _ rfl
            have d4 := Hv.out.at' 4 _ rfl
            by_cases hs : ys = 1
            · have hs' : (ys == 1) = true := by simpa using hs
              clear hs
              by_cases hl : yl = el
              · have hl' : (yl == el) = true := by simpa using hl
                clear hl
                by_cases hh : yh = eh
                · have hh' : (yh == eh) = true := by simpa using hh
                  clear hh
                  go_wp2_with fail
                  go_ret
                  exact ⟨rfl, below_step HB1.out HH8.out.below⟩
                · have hh' : (yh == eh) = false := by simpa using hh
                  clear hh
                  go_wp2_with fail
                  go_roundw
                  case rel => exact ⟨d + 1, by omega, by go_num, HH8⟩
                  case measure => first | omega | (simp [intOf]; done) | (simp [intOf]; omega)
              · have hl' : (yl == el) = false := by simpa using hl
                clear hl
                go_wp2_with fail
                go_roundw
                case rel => exact ⟨d + 1, by omega, by go_num, HH8⟩
                case measure => first | omega | (simp [intOf]; done) | (simp [intOf]; omega)
            · have hs' : (ys == 1) = false := by simpa using hs
              clear hs
              go_wp2_with fail
              go_roundw
              case rel => exact ⟨d + 1, by omega, by go_num, HH8⟩
              case measure => first | omega | (simp [intOf]; done) | (simp [intOf]; omega)
          · have hdN' : ¬ (d : Int) < (e : Int) := by omega
            have c0 := (Hold.has HH.out 1 _ rfl).1.at' 0 _ rfl
            have c1 := (Hold.has HH.out 1 _ rfl).1.at' 1 _ rfl
            have c2 := (Hold.has HH.out 1 _ rfl).1.at' 2 _ rfl
            have c3 := (Hold.has HH.out 1 _ rfl).1.at' 3 _ rfl
            have c4 := (Hold.has HH.out 1 _ rfl).1.at' 4 _ rfl
            have f1 := (Hold.has HH.out 1 _ rfl).1.fz 1
            go_wp2_with fail
            refine (other_any es _).mono ?_
            rintro r wr2 ⟨rfl, rfl⟩
            go_wp2_with fail
            have HH9 : Hid (Hold wo (wr.setCell ⟨bw, 1, none⟩ (i64 (otherE es))) [tRow wo.heap.size 29 1 (.slice A e cp) e ((tws ws e).map (Value.int .u64)), tObj wo.heap.size bw [i64 1, i64 (otherE es), i64 eg, i64 el, i64 eh]]) := HH.out.obj1 1 (i64 (otherE es))
            clear c0 c1 c2 c3 c4 f1 HH
            generalize wr.setCell ⟨bw, 1, none⟩ (i64 (otherE es)) = w9 at HH9 ⊢
            refine (HTW.out _).mono ?_
            rintro r w10 ⟨rfl, hb10⟩
            have HHa := Lib.hid ((HH9.out.later hb10).fst.later (below_new (Below.refl _ _) (.cells #[.int .u64 (turnW x)] 29)))
            clear hb10 HH9
            go_wp2_with (at_builtin; refine list_append_grew rfl _ _ 22 rfl wo.heap.size 29 _ 1 8 elem_u64 (.slice A e cp) e ((tws ws e).map (Value.int .u64)) rfl (Hold.has HHa.out 0 _ rfl) (some ⟨_, 0, none⟩) 1 1 [.int .u64 (turnW x)] rfl (src_list w10 [.int .u64 (turnW x)] 29 1 1 rfl (one_int _ _)) (by unfold maxLen; omega) (by omega) HHa.out.size ?_; intro v2 w11 hG; rw [show (tws ws e).map (Value.int .u64) ++ [.int .u64 (turnW x)] = (tws ws (e + 1)).map (Value.int .u64) by rw [tws_succ, HX.out, List.map_append]; rfl] at hG; have HHb := Lib.hid (HHa.out.append 0 rfl rfl hG); clear hG; obtain ⟨A9, cp9, rfl⟩ := own_shape (Hold.has HHb.out 0 _ rfl))
            go_roundw
            case rel => exact ⟨e + 1, by omega, by go_num, HHb⟩
            case measure => first | omega | (simp [intOf]; done) | (simp [intOf]; omega)
      · have h1' : (x % 4 != 1) = true := by simp [h1]
        have HTW : Hid (turnW x = 4) := by show turnW x = 4; unfold turnW; rw [if_neg h1]
        have c0 := (Hold.has HH6.out 1 _ rfl).1.at' 0 _ rfl
        have c1 := (Hold.has HH6.out 1 _ rfl).1.at' 1 _ rfl
        have c2 := (Hold.has HH6.out 1 _ rfl).1.at' 2 _ rfl
        have c3 := (Hold.has HH6.out 1 _ rfl).1.at' 3 _ rfl
        have c4 := (Hold.has HH6.out 1 _ rfl).1.at' 4 _ rfl
        have f0 := (Hold.has HH6.out 1 _ rfl).1.fz 0
        have f1 := (Hold.has HH6.out 1 _ rfl).1.fz 1
        have f2 := (Hold.has HH6.out 1 _ rfl).1.fz 2
        have f3 := (Hold.has HH6.out 1 _ rfl).1.fz 3
        have f4 := (Hold.has HH6.out 1 _ rfl).1.fz 4
        have HTW2 : Hid (∀ W, Calls Try.prog 22 #[wd 0 (otherE 0) 0 0 0] W fun r w' => r = .returned (.int .u64 (turnW x)) ∧ Below W.heap.size W w') := fun W => by
          have := pack_right 0 1 0 0 0 W (by decide)
          rw [HTW.out]
          exact this
        clear h1
        go_upto_region 12 with (fail)
        have HH7 := Lib.hid (((((HH6.out.obj1 0 (i64 0)).obj1 1 (i64 0)).obj1 2 (i64 0)).obj1 3 (i64 0)).obj1 4 (i64 0))
        clear c0 c1 c2 c3 c4 f0 f1 f2 f3 f4 HH6 HTW
        generalize ((((w6.setCell ⟨bw, 0, none⟩ (i64 0)).setCell ⟨bw, 1, none⟩ (i64 0)).setCell ⟨bw, 2, none⟩ (i64 0)).setCell ⟨bw, 3, none⟩ (i64 0)).setCell ⟨bw, 4, none⟩ (i64 0) = w7 at HH7 ⊢
        have HH6 : Hid (Hold wo w7 [tRow wo.heap.size 29 1 (.slice A e cp) e ((tws ws e).map (Value.int .u64)), tObj wo.heap.size bw [i64 0, i64 0, i64 0, i64 0, i64 0]]) := HH7.out
        have HTW := HTW2
        clear HH7 HTW2
        go_wp2_with fail
        go_loopw [36] (fun jv wr => ∃ (d : Nat), d ≤ e ∧ jv = .int .i64 d ∧ Hid (Hold wo wr [tRow wo.heap.size 29 1 (.slice A e cp) e ((tws ws e).map (Value.int .u64)), tObj wo.heap.size bw [i64 0, i64 0, i64 0, i64 0, i64 0]])) (fun jv _ => e - (intOf jv).toNat)
        case atStart => exact ⟨0, by omega, rfl, HH6⟩
        case round =>
          clear HH6
          obtain ⟨d, hd, rfl, HH⟩ := hrel
          rcases Nat.lt_or_ge d e with hdN | hdN
          · have hdN' : (d : Int) < (e : Int) := by omega
            have zy := (below_rule HH.out.below _ (by rw [HC.out d (by have := Hlen.out; omega)]; rfl)).trans (HC.out d (by have := Hlen.out; omega))
            have hfy := HW.out.fit d
            obtain ⟨y, hye⟩ : ∃ y : Int, ws.getD d 0 = y := ⟨_, rfl⟩
            rw [hye] at zy hfy
            obtain ⟨y0, y1⟩ := hfy
            clear hye
            go_wp2_with fail
            refine (unpack_any y _ y0 y1).mono ?_
            rintro r w8 ⟨rfl, hb8⟩
            have HH8 := Lib.hid ((HH.out.later hb8).later (below_new (Below.refl _ _) (.cells #[.int .i64 (y % 4), .int .i64 (y / 4 % 2), .int .i64 (y / 8 % 8192), .int .i64 (y / 65536 % 16777216), .int .i64 (y / 1099511627776)] 34)))
            have Hv : Hid (IsObj (w8.alloc (.cells #[.int .i64 (y % 4), .int .i64 (y / 4 % 2), .int .i64 (y / 8 % 8192), .int .i64 (y / 65536 % 16777216), .int .i64 (y / 1099511627776)] 34)) w8.heap.size [i64 (y % 4), i64 (y / 4 % 2), i64 (y / 8 % 8192), i64 (y / 65536 % 16777216), i64 (y / 1099511627776)]) := IsObj.made w8 [i64 (y % 4), i64 (y / 4 % 2), i64 (y / 8 % 8192), i64 (y / 65536 % 16777216), i64 (y / 1099511627776)] 34
            clear hb8 HH zy
            go_upto_region 16 with (fail)
            generalize w8.alloc (.cells #[.int .i64 (y % 4), .int .i64 (y / 4 % 2), .int .i64 (y / 8 % 8192), .int .i64 (y / 65536 % 16777216), .int .i64 (y / 1099511627776)] 34) = w9 at HH8 Hv ⊢
            generalize w8.heap.size = bv at Hv ⊢
            clear w8
            obtain ⟨ys, hys⟩ : ∃ q : Int, y % 4 = q := ⟨_, rfl⟩
            obtain ⟨yl, hyl⟩ : ∃ q : Int, y / 65536 % 16777216 = q := ⟨_, rfl⟩
            obtain ⟨yh, hyh⟩ : ∃ q : Int, y / 1099511627776 = q := ⟨_, rfl⟩
            rw [hys, hyl, hyh] at Hv
            clear hys hyl hyh y0 y1
            have c0 := (Hold.has HH8.out 1 _ rfl).1.at' 0 _ rfl
            have c3 := (Hold.has HH8.out 1 _ rfl).1.at' 3 _ rfl
            have c4 := (Hold.has HH8.out 1 _ rfl).1.at' 4 _ rfl
            have d0 := Hv.out.at' 0 _ rfl
            have d3 := Hv.out.at' 3 _ rfl
            have d4 := Hv.out.at' 4 _ rfl
            go_wp2_with fail
            go_roundw
            case rel => exact ⟨d + 1, by omega, by go_num, HH8⟩
            case measure => first | omega | (simp [intOf]; done) | (simp [intOf]; omega)
          · have hdN' : ¬ (d : Int) < (e : Int) := by omega
            have c0 := (Hold.has HH.out 1 _ rfl).1.at' 0 _ rfl
            have c1 := (Hold.has HH.out 1 _ rfl).1.at' 1 _ rfl
            have c2 := (Hold.has HH.out 1 _ rfl).1.at' 2 _ rfl
            have c3 := (Hold.has HH.out 1 _ rfl).1.at' 3 _ rfl
            have c4 := (Hold.has HH.out 1 _ rfl).1.at' 4 _ rfl
            have f1 := (Hold.has HH.out 1 _ rfl).1.fz 1
            go_wp2_with fail
            refine (other_any 0 _).mono ?_
            rintro r wr2 ⟨rfl, rfl⟩
            go_wp2_with fail
            have HH9 : Hid (Hold wo (wr.setCell ⟨bw, 1, none⟩ (i64 (otherE 0))) [tRow wo.heap.size 29 1 (.slice A e cp) e ((tws ws e).map (Value.int .u64)), tObj wo.heap.size bw [i64 0, i64 (otherE 0), i64 0, i64 0, i64 0]]) := HH.out.obj1 1 (i64 (otherE 0))
            clear c0 c1 c2 c3 c4 f1 HH
            generalize wr.setCell ⟨bw, 1, none⟩ (i64 (otherE 0)) = w9 at HH9 ⊢
            refine (HTW.out _).mono ?_
            rintro r w10 ⟨rfl, hb10⟩
            have HHa := Lib.hid ((HH9.out.later hb10).fst.later (below_new (Below.refl _ _) (.cells #[.int .u64 (turnW x)] 29)))
            clear hb10 HH9
            go_wp2_with (at_builtin; refine list_append_grew rfl _ _ 22 rfl wo.heap.size 29 _ 1 8 elem_u64 (.slice A e cp) e ((tws ws e).map (Value.int .u64)) rfl (Hold.has HHa.out 0 _ rfl) (some ⟨_, 0, none⟩) 1 1 [.int .u64 (turnW x)] rfl (src_list w10 [.int .u64 (turnW x)] 29 1 1 rfl (one_int _ _)) (by unfold maxLen; omega) (by omega) HHa.out.size ?_; intro v2 w11 hG; rw [show (tws ws e).map (Value.int .u64) ++ [.int .u64 (turnW x)] = (tws ws (e + 1)).map (Value.int .u64) by rw [tws_succ, HX.out, List.map_append]; rfl] at hG; have HHb := Lib.hid (HHa.out.append 0 rfl rfl hG); clear hG; obtain ⟨A9, cp9, rfl⟩ := own_shape (Hold.has HHb.out 0 _ rfl))
            go_roundw
            case rel => exact ⟨e + 1, by omega, by go_num, HHb⟩
            case measure => first | omega | (simp [intOf]; done) | (simp [intOf]; omega)
    · have heN' : ¬ (e : Int) < (len : Int) := by omega
      obtain rfl : e = len := by omega
      have HB := Lib.hid HH.out.below
      go_wp2_with fail
      refine (HORD.out _ (HWo.out.later HB.out) (by omega)).mono ?_
      rintro r w2 ⟨v, S, rfl, ho, hi, hb2⟩
      have HH2 := Lib.hid (HH.out.later hb2)
      have hor := order_any w2 A cp (tws ws e) (ws_of_own (Hold.has HH2.out 0 _ rfl) (tws_fit HW.out.fit e)) (by rw [tws_len]; omega)
      rw [tws_len] at hor
      have HOR := Lib.hid hor
      obtain ⟨A1, c1, rfl, hc1, hi1⟩ := id hi.has
      have hmir := order_mirror HW.out.fit ho
      rw [Hlen.out] at hmir
      have hSl := ho.len
      rw [Hlen.out] at hSl
      have HI := Lib.hid hi
      have HMI := Lib.hid hmir
      clear hi hi1 hor hb2 hmir ho HH HB HORD
      go_wp2_with fail
      refine HOR.out.mono ?_
      rintro r w3 ⟨v', S', rfl, ho', hi', hb3⟩
      obtain rfl := HMI.out.one ho'
      have HB3 := Lib.hid (below_step HH2.out.below hb3)
      replace HI := Lib.hid (HI.out.later hb3)
      obtain ⟨A2, c2, rfl, hc2, hi2⟩ := id hi'.has
      have HI2 := Lib.hid hi'
      rw [List.length_reverse] at hc2 ⊢
      obtain ⟨n, hn⟩ : ∃ n : Nat, S.length = n := ⟨_, rfl⟩
      have HJ : Hid (∀ d : Nat, d < n → ∃ b off b' off', A1 = some ⟨b, off, none⟩ ∧ A2 = some ⟨b', off', none⟩ ∧ w3.cell? ⟨b, off + d, none⟩ = some (i64 (S.getD d 0 : Nat)) ∧ w3.cell? ⟨b', off' + (n - 1 - d), none⟩ = some (i64 (S.getD d 0 : Nat))) := fun d hd => by
        obtain ⟨y1, y2, hv, y3, y4⟩ := HI.out.has
        cases hv
        obtain ⟨b, off, rfl, h1⟩ := y4 (by omega)
        obtain ⟨y1', y2', hv', y3', y4'⟩ := HI2.out.has
        cases hv'
        obtain ⟨b', off', rfl, h2⟩ := y4' (by rw [List.length_reverse]; omega)
        refine ⟨b, off, b', off', rfl, rfl, h1 d (by omega), ?_⟩
        rw [h2 (n - 1 - d) (by rw [List.length_reverse]; omega), ← hn, rev_get S (by omega)]
      rw [hn] at hc1 hc2 hSl ⊢
      clear hi' hi2 hb3 ho' HI HI2 HOR HH2 HMI hn
      obtain ⟨ww, rfl⟩ : ∃ ww : World, ww = w3 := ⟨_, rfl⟩
      go_wp2_with fail
      go_loopw [79] (fun i wr => ∃ (d : Nat), d ≤ n ∧ i = .int .i64 d ∧ Hid (Below ww.heap.size ww wr)) (fun i _ => n - (intOf i).toNat)
      case atStart => exact ⟨0, by omega, rfl, Below.refl _ _⟩
      case round =>
        obtain ⟨d, hd, rfl, HB⟩ := hrel
        rcases Nat.lt_or_ge d n with hdN | hdN
        · have hdN' : (d : Int) < (n : Int) := by omega
          obtain ⟨b1, off1, b', off', rfl, rfl, z1, z2⟩ := HJ.out d hdN
          replace z1 := (below_rule HB.out _ (by rw [z1]; rfl)).trans z1
          replace z2 := (below_rule HB.out _ (by rw [z2]; rfl)).trans z2
          obtain ⟨k, hk⟩ : ∃ k : Nat, n - 1 - d = k := ⟨_, rfl⟩
          rw [hk] at z2
          have hk1 : IntKind.i64.wrap ((n : Int) - 1) = (n : Int) - 1 := IntWalk.i64_in _ (by omega)
          have hk2 : (n : Int) - 1 - (d : Int) = (k : Int) := by omega
          have hk3 : IntKind.i64.wrap (k : Int) = (k : Int) := IntWalk.i64_in _ (by omega)
          have hk4 : (k : Int) < (n : Int) := by omega
          have hk5 : (0 : Int) ≤ (k : Int) := by omega
          clear hk
          go_wp2_with fail
          refine wp_region_seq ((0, true) :: (1, true) :: (2, true) :: (3, true) :: (4, true) :: (5, true) :: (6, true) :: (7, true) :: (8, true) :: (9, true) :: (10, true) :: (11, true) :: (12, true) :: []) (by kernel_rfl) (by kernel_rfl) (by kernel_rfl) (by decide) (fun _ _ _ _ _ h => h) (fun hHeld => ?_)
          repeat (first
            | (refine seq_take (v := ?_) rfl ?_ ?_ ?_; rotate_left 1; rfl; (focus (intro wS hSw; have hk := below_rule hSw; go_simp; first | done | with_reducible rfl)); (try simp only [Act.put, List.setIfInBounds_toArray, List.set_cons_zero, List.set_cons_succ]))
            | (refine seq_skip rfl ?_ ?_; rfl; (try simp only [Act.put, List.setIfInBounds_toArray, List.set_cons_zero, List.set_cons_succ]))
            | (refine seq_run rfl (fun K hK => ?_); go_simp; (try skip); (try go_wp2_with fail); refine hK.out _ _ ?_ ?_; (focus (first | exact below_step hHeld hb' | exact below_new hHeld _ | exact hHeld)); (try clear hb'); clear hHeld hK K; intro hHeld; (try simp only [Act.put, List.setIfInBounds_toArray, List.set_cons_zero, List.set_cons_succ])))
          first | refine seq_done ?_ | skip
          replace HB := Lib.hid (below_step HB.out hHeld)
          clear hHeld z1 z2 hk1 hk2 hk3 hk4 hk5
          go_wp2_with fail
          go_roundw
          case rel => exact ⟨d + 1, by omega, by go_num, HB⟩
          case measure => first | omega | (simp [intOf]; done) | (simp [intOf]; omega)
        · have hdN' : ¬ (d : Int) < (n : Int) := by omega
          go_wp2_with fail
          go_ret
          exact ⟨rfl, below_step HB1.out (below_step HB3.out HB.out)⟩

end Go.Proofs.Ythncappmjdgmnaa
