/-
  The contract of Row, the order that the laws reckon by themselves: each live place is put in where it belongs. No condition but that the words are numbers of 64 bits, and no more than a million.
-/
import Derived.Test.YticphioeipbnmaaPickLaw
import Derived.Test.YticphioeipbnmaaFlat
import Derived.Test.YticphioeipbnmaaWalkMemSums
namespace Go.Proofs.Yticphioeipbnmaa
open Go.RowKit
set_option linter.unusedVariables false
attribute [local go_sem ↓] fld0 fld1 fld3

/-- A list of words that came in. -/
theorem rows_words {w : World} {a0 : Option Addr} {len cap : Nat} (h : IsRows w [.inl .u64] a0 len cap) : ∃ ws : List Int, ws.length = len ∧ IsWs w a0 ws := by
  rcases Nat.eq_zero_or_pos len with h0 | h0
  · exact ⟨[], h0.symm, fun h => absurd h (by decide), fun i => by simp⟩
  · obtain ⟨b, off, X, h1, h2, h3, h4⟩ := rows_u64 h h0
    have hg : ∀ i, i < len → ((List.range len).map X).getD i 0 = X i := fun i hi => by
      rw [List.getD_eq_getElem?_getD, List.getElem?_map, List.getElem?_range hi]
      rfl
    refine ⟨(List.range len).map X, by simp, fun _ => ⟨b, off, h1, fun i hi => ?_⟩, fun i => ?_⟩
    · have hi2 : i < len := by simpa using hi
      rw [hg i hi2]
      exact (h4 i hi2).1
    · by_cases hi : i < len
      · rw [hg i hi]
        exact (h4 i hi).2
      · rw [List.getD_eq_getElem?_getD, List.getElem?_eq_none (by simp; omega)]
        decide

theorem Hold.snd {W w : World} {a b : Thing} (h : Hold W w [a, b]) : Hold W w [b] := by
  have up : ∀ (i : Nat) (A : Thing), [b][i]? = some A → [a, b][i + 1]? = some A := fun i A hi => hi
  exact ⟨h.size, h.below, fun i A hi => h.ok (i + 1) A (up i A hi), fun i A hi => h.has (i + 1) A (up i A hi), fun i j A B hi hj hne => h.apart (i + 1) (j + 1) A B (up i A hi) (up j B hj) (by omega)⟩

/-- From left to right, all of the first e places that is live. -/
structure IsUpto (ws : List Int) (e : Nat) (S : List Nat) : Prop where
  rise : S.Pairwise (fun i j => wkey ws i < wkey ws j)
  mem : ∀ i, i ∈ S ↔ i < e ∧ live ws i
theorem IsUpto.nil (ws : List Int) : IsUpto ws 0 [] := ⟨List.Pairwise.nil, fun i => by simp⟩
theorem IsUpto.skip {ws : List Int} {e : Nat} {S : List Nat} (h : IsUpto ws e S) (hl : ¬ live ws e) : IsUpto ws (e + 1) S :=
  ⟨h.rise, fun i => (h.mem i).trans ⟨fun h => ⟨by omega, h.2⟩, fun h => ⟨by
    rcases Nat.lt_or_ge i e with h1 | h1
    · exact h1
    · obtain rfl : i = e := by omega
      exact absurd h.2 hl, h.2⟩⟩⟩
theorem IsUpto.len {ws : List Int} {e : Nat} {S : List Nat} (h : IsUpto ws e S) : S.length ≤ e := by
  have hnd : S.Nodup := h.rise.imp (fun {a b} hab => fun e => by subst e; omega)
  have hp : S.Perm (upto ws e) := (List.perm_ext_iff_of_nodup hnd (nodup_upto ws e)).2 (fun i => (h.mem i).trans mem_upto.symm)
  rw [hp.length_eq]
  exact upto_len ws e
theorem IsUpto.put {ws : List Int} (hf : ∀ i, 0 ≤ ws.getD i 0 ∧ ws.getD i 0 ≤ 18446744073709551615) {e k : Nat} {S : List Nat} (he : e < 1000000) (h : IsUpto ws e S) (hl : live ws e) (hk : k ≤ S.length) (h1 : ∀ j, j < k → wkey ws (S.getD j 0) < wkey ws e) (h2 : k < S.length → ¬ wkey ws (S.getD k 0) < wkey ws e) :
    IsUpto ws (e + 1) (S.take k ++ e :: S.drop k) := by
  have hg : ∀ j (hj : j < S.length), S.getD j 0 = S[j] := fun j hj => by rw [List.getD_eq_getElem?_getD, List.getElem?_eq_getElem hj]; rfl
  obtain ⟨p, q⟩ := rise_insert (wkey ws) S e k h.rise hk (fun j hj hjk => by rw [← hg j hj]; exact h1 j hjk) (fun hj => by
    have h3 := h2 hj
    rw [hg k hj] at h3
    have hm := ((h.mem S[k]).1 (List.getElem_mem _)).1
    rcases Int.lt_trichotomy (wkey ws S[k]) (wkey ws e) with h4 | h4 | h4
    · exact absurd h4 h3
    · have := wkey_inj hf (by omega) he h4
      omega
    · exact h4)
  refine ⟨p, fun i => (q i).trans ?_⟩
  rw [h.mem i]
  constructor
  · rintro (rfl | ⟨h3, h4⟩)
    · exact ⟨by omega, hl⟩
    · exact ⟨by omega, h4⟩
  · rintro ⟨h3, h4⟩
    rcases (by omega : i = e ∨ i < e) with h5 | h5
    · exact .inl h5
    · exact .inr ⟨h5, h4⟩

theorem parts_eq (S : List Nat) (k e : Nat) : (S.take k ++ [e]).map (fun i : Nat => i64 (i : Int)) ++ ((S.map (fun i : Nat => i64 (i : Int))).drop k).take (S.length - k) = (S.take k ++ e :: S.drop k).map (fun i : Nat => i64 (i : Int)) := by
  rw [List.take_of_length_le (l := (S.map (fun i : Nat => i64 (i : Int))).drop k) (by rw [List.length_drop, List.length_map]; exact Nat.le_refl _), ← List.map_drop, ← List.map_append, List.append_assoc]
  rfl
theorem Grew.eq {w w' : World} {base : Nat} {e : TypeId} {sz n n' : Nat} {v v' : Value} {xs xs' : List Value} (h : Grew w w' base e sz v v' n xs) (hn : n = n') (hx : xs = xs') : Grew w w' base e sz v v' n' xs' := by
  subst hn hx
  exact h
theorem src_none (w : World) (A : Option Addr) (m : Nat) (hm : m = 0) : Src w 1 A m [] := ⟨fun _ => hm, by rw [hm]; rfl, fun ad had j u hj => by simp at hj, fun u hu => by simp at hu⟩
theorem Hold.grow2 {W w w' : World} {A : Thing} {base : Nat} {e : TypeId} {sz n n' : Nat} {v v' : Value} {xs xs' : List Value} (h : Hold W w [A, tRow base e sz v n xs]) (hb : base = W.heap.size) (g : Grew w w' base e sz v v' n' xs') : Hold W w' [A, tRow base e sz v' n' xs'] := h.append 1 hb rfl g
/-- A part of a row, to be appended. -/
theorem src_part {w : World} {base : Nat} {e : TypeId} {g n cap : Nat} {xs : List Value} (h : w.ownsRow base e 1 (.slice (some ⟨g, 0, none⟩) n cap) n xs) (h1 : ∀ u ∈ xs, u.oneCell' = true) (o m : Nat) (ho : o + m ≤ n) : Src w 1 (some ⟨g, o, none⟩) m ((xs.drop o).take m) := by
  have hl := h.1
  refine ⟨(fun h => by cases h), by rw [List.length_take, List.length_drop]; omega, fun ad had j u hj => ?_, fun u hu => h1 u (List.mem_of_mem_drop (List.mem_of_mem_take hu))⟩
  cases had
  have hjm : j < m := by
    have := (List.getElem?_eq_some_iff.1 hj).1
    rw [List.length_take] at this
    omega
  rw [addr_add', h.cellAt (o + j) (by omega)]
  rw [List.getElem?_take_of_lt hjm, List.getElem?_drop] at hj
  exact hj
theorem one_nums (S : List Nat) : ∀ u ∈ S.map (fun i : Nat => i64 (i : Int)), u.oneCell' = true := by
  intro u hu
  rw [List.mem_map] at hu
  obtain ⟨i, _, rfl⟩ := hu
  rfl
/-- A list of words, to be appended. -/
theorem src_words {w : World} {a : Option Addr} {ws : List Int} (h : IsWs w a ws) : Src w 1 a ws.length (ws.map (Value.int .u64)) := by
  refine ⟨fun ha => ?_, by rw [List.length_map, Nat.mul_one], fun ad had j u hj => ?_, fun u hu => ?_⟩
  · rcases Nat.eq_zero_or_pos ws.length with h0 | h0
    · exact h0
    · obtain ⟨b, off, rfl, _⟩ := h.has h0
      cases ha
  · have hjl : j < ws.length := by have := (List.getElem?_eq_some_iff.1 hj).1; rwa [List.length_map] at this
    obtain ⟨b, off, rfl, hc⟩ := h.has (by omega)
    cases had
    rw [addr_add', hc j hjl, ← hj, List.getElem?_map, List.getD_eq_getElem?_getD, List.getElem?_eq_getElem hjl]
    rfl
  · rw [List.mem_map] at hu
    obtain ⟨x, _, rfl⟩ := hu
    rfl
theorem ws_of_row {w : World} {base : Nat} {e : TypeId} {g n cap : Nat} {ws : List Int} (h : w.ownsRow base e 1 (.slice (some ⟨g, 0, none⟩) n cap) n (ws.map (Value.int .u64))) (hf : ∀ i, 0 ≤ ws.getD i 0 ∧ ws.getD i 0 ≤ 18446744073709551615) : IsWs w (some ⟨g, 0, none⟩) ws := by
  have hl := h.1
  rw [List.length_map] at hl
  exact ⟨fun _ => ⟨g, 0, rfl, fun i hi => by rw [Nat.zero_add]; exact row_at h (by omega)⟩, hf⟩
theorem IsOrder.len {ws : List Int} {S : List Nat} (h : IsOrder ws S) : S.length ≤ ws.length := IsUpto.len ⟨h.rise, h.mem⟩

set_option maxRecDepth 100000 in
set_option maxHeartbeats 8000000 in
theorem row_own (W : World) (a : Option Addr) (cap : Nat) (ws : List Int) (hW : IsWs W a ws) (hn : ws.length ≤ 100000) :
    Calls Try.prog 21 #[.slice a ws.length cap] W fun r w' => ∃ v S, r = .returned v ∧ IsOrder ws S ∧ IsInts w' v S ∧ Below W.heap.size W w' ∧ w'.ownsRow W.heap.size 3 1 v S.length (S.map (fun i : Nat => i64 (i : Int))) := by
  have HW := Lib.hid hW
  clear hW
  obtain ⟨len, hlen⟩ : ∃ len : Nat, ws.length = len := ⟨_, rfl⟩
  have Hlen := Lib.hid hlen
  rw [hlen] at hn ⊢
  clear hlen
  go_enter Try.func21, Try.ntmps21
  go_wp2_with fail
  have H0 : Hid (Hold W (W.alloc (.cells #[] 3)) [tRow W.heap.size 3 1 (.slice (some ⟨W.heap.size, 0, none⟩) 0 0) ([] : List Nat).length (([] : List Nat).map (fun i : Nat => i64 (i : Int)))]) :=
    Hold.more (l := []) (Hold.nil (Below.refl _ _)) (below_new (Below.refl _ _) (.cells #[] 3)) (tRow_ok _ _ _ _ _ _) (tRow_made W _ 3 1 (Nat.le_refl _)) tRow_new
  obtain ⟨wo, rfl⟩ : ∃ wo : World, wo = W := ⟨_, rfl⟩
  go_loopw [3, 11] (fun vb j wr => ∃ (e : Nat) (S : List Nat) (g cp : Nat), e ≤ len ∧ j = .int .i64 e ∧ vb = .slice (some ⟨g, 0, none⟩) S.length cp ∧ S.length ≤ cp ∧ Hid (IsUpto ws e S) ∧ Hid (Hold wo wr [tRow wo.heap.size 3 1 (.slice (some ⟨g, 0, none⟩) S.length cp) S.length (S.map (fun i : Nat => i64 (i : Int)))])) (fun _ j _ => len - (intOf j).toNat)
  case atStart => exact ⟨0, [], wo.heap.size, 0, by omega, rfl, rfl, Nat.le_refl _, IsUpto.nil ws, H0⟩
  case round =>
    clear H0
    obtain ⟨e, S, g, cp, he, rfl, rfl, hcp, HU, HH⟩ := hrel
    rcases Nat.lt_or_ge e len with heN | heN
    · have heN' : (e : Int) < (len : Int) := by omega
      obtain ⟨b, off, rfl, hc⟩ := HW.out.has (by have := Hlen.out; omega)
      have hx := (HH.out.below.cell (p := ⟨b, off + e, none⟩) (World.block_lt_of_cell? _ _ (hc e (by have := Hlen.out; omega)))).trans (hc e (by have := Hlen.out; omega))
      have hf := HW.out.fit e
      obtain ⟨x, hxe⟩ : ∃ x : Int, ws.getD e 0 = x := ⟨_, rfl⟩
      rw [hxe] at hx hf
      obtain ⟨x0, x1⟩ := hf
      have HX := Lib.hid hxe
      have HC := Lib.hid hc
      clear hxe hc
      go_wp2_with fail
      refine (unpack_any x _ x0 x1).mono ?_
      rintro r w5 ⟨rfl, hb5⟩
      have HH5 := Lib.hid (HH.out.later hb5)
      clear hb5 HH hx
      by_cases h1 : x % 4 = 1
      · have h1' : (x % 4 != 1) = false := by simp [h1]
        have HL : Hid (live ws e) := by show ws.getD e 0 % 4 = 1; rw [HX.out]; exact h1
        clear h1
        have hSe := HU.out.len
        go_wp2_with fail
        go_loopw [6] (fun j wr => ∃ (k : Nat), k ≤ S.length ∧ j = .int .i64 k ∧ Hid (Below w5.heap.size w5 wr) ∧ Hid (∀ q, q < k → wkey ws (S.getD q 0) < wkey ws e)) (fun j _ => S.length - (intOf j).toNat)
        case atStart => exact ⟨0, by omega, rfl, Below.refl _ _, fun q hq => by omega⟩
        case round =>
          obtain ⟨k, hk, rfl, HB, HK⟩ := hrel
          rcases Nat.lt_or_ge k S.length with hkS | hkS
          · have hkS' : (k : Int) < (S.length : Int) := by omega
            have HHb := Lib.hid (HH5.out.later HB.out)
            have hrow : World.ownsRow _ _ _ _ _ _ _ := Hold.has HHb.out 0 _ rfl
            have hg : S.getD k 0 = S[k] := by rw [List.getD_eq_getElem?_getD, List.getElem?_eq_getElem hkS]; rfl
            have hsm := ((HU.out.mem (S.getD k 0)).1 (by rw [hg]; exact List.getElem_mem _)).1
            obtain ⟨s, hs⟩ : ∃ s : Nat, S.getD k 0 = s := ⟨_, rfl⟩
            have z1 : wr.cell? ⟨g, k, none⟩ = some (i64 (s : Int)) := by
              rw [hrow.cellAt k (by omega), List.getElem?_map, List.getElem?_eq_getElem hkS, ← hs, hg]
              rfl
            rw [hs] at hsm
            have HSS := Lib.hid hs
            have hBo : Below wo.heap.size wo wr := HHb.out.below
            have hy1 := (hBo.cell (p := ⟨b, off + s, none⟩) (World.block_lt_of_cell? _ _ (HC.out s (by have := Hlen.out; omega)))).trans (HC.out s (by have := Hlen.out; omega))
            have hy2 := (hBo.cell (p := ⟨b, off + e, none⟩) (World.block_lt_of_cell? _ _ (HC.out e (by have := Hlen.out; omega)))).trans (HC.out e (by have := Hlen.out; omega))
            have hfs := HW.out.fit s
            have HA := Lib.hid (lawahead_any wr b off len cap s e (ws.getD s 0) (ws.getD e 0) (by omega) heN (by omega) hy1 hy2 hfs.1 hfs.2 (HW.out.fit e).1 (HW.out.fit e).2)
            clear hg hs hrow hBo hy1 hy2 hfs
            by_cases hlt : wkey ws s < wkey ws e
            · have hd : Hid (decide (xkey (ws.getD s 0) s < xkey (ws.getD e 0) e) = true) := decide_eq_true hlt
              have HLT := Lib.hid hlt
              clear hlt
              go_wp2_with fail
              refine HA.out.mono ?_
              rintro r w6 ⟨rfl, hb6⟩
              rw [hd.out]
              have HB6 := Lib.hid (below_step HB.out hb6)
              clear hb6 z1
              go_wp2_with fail
              go_roundw
              case rel => exact ⟨k + 1, by omega, by go_num, HB6, fun q hq => by
                rcases Nat.lt_or_ge q k with h3 | h3
                · exact HK.out q h3
                · obtain rfl : q = k := by omega
                  rw [HSS.out]
                  exact HLT.out⟩
              case measure => first | omega | (simp [intOf]; done) | (simp [intOf]; omega)
            · have hd : Hid (decide (xkey (ws.getD s 0) s < xkey (ws.getD e 0) e) = false) := decide_eq_false hlt
              have HK2 : Hid (k < S.length → wkey ws e ≤ wkey ws (S.getD k 0)) := fun _ => by rw [HSS.out]; exact Int.not_lt.1 hlt
              clear hlt
              go_wp2_with fail
              refine HA.out.mono ?_
              rintro r w6 ⟨rfl, hb6⟩
              rw [hd.out]
              replace HB := Lib.hid (below_step HB.out hb6)
              clear hb6 z1 HA HHb hd hkS'
              have HHc := Lib.hid (HH5.out.later HB.out)
              have HHa : Hid (Hold wo (w6.alloc (.cells #[] 3)) [tRow wo.heap.size 3 1 (.slice (some ⟨g, 0, none⟩) S.length cp) S.length (S.map (fun i : Nat => i64 (i : Int))), tRow wo.heap.size 3 1 (.slice (some ⟨w6.heap.size, 0, none⟩) 0 0) 0 []]) :=
                Hold.more HHc.out (below_new (Below.refl _ _) (.cells #[] 3)) (tRow_ok _ _ _ _ _ _) (tRow_made w6 _ 3 1 HHc.out.size) tRow_new
              have hS1 := src_part (Hold.has HHa.out 0 _ rfl) (one_nums S) 0 k (by omega)
              have HS1 := Lib.hid hS1
              clear hS1 HHc
              go_wp2_with (first
                | (at_builtin; refine list_append_grew rfl _ _ 58 rfl wo.heap.size 3 _ 1 8 elem_i64 (.slice (some ⟨w6.heap.size, 0, none⟩) 0 0) 0 [] rfl (Hold.has HHa.out 1 _ rfl) (some ⟨g, 0, none⟩) k cp _ rfl HS1.out (by unfold maxLen; omega) (by omega) HHa.out.size ?_; intro v1 w8 hG; rw [Nat.zero_add, List.nil_append, List.drop_zero, ← List.map_take] at hG; have HH8 := Lib.hid (Hold.grow2 HHa.out rfl hG); clear hG; clear HS1; obtain ⟨A1, cp1, rfl⟩ := own_shape (Hold.has HH8.out 1 _ rfl))
                | (at_builtin; refine list_append_grew rfl _ _ 58 rfl wo.heap.size 3 _ 1 8 elem_i64 (.slice A1 k cp1) k ((S.take k).map (fun i : Nat => i64 (i : Int))) rfl (Hold.has (Hold.later HH8.out (below_new (Below.refl _ _) (.cells #[.int .i64 e] 3))) 1 _ rfl) (some ⟨_, 0, none⟩) 1 1 [.int .i64 e] rfl (src_list w8 [.int .i64 e] 3 1 1 rfl (one_int _ _)) (by unfold maxLen; omega) (by omega) ((Hold.later HH8.out (below_new (Below.refl _ _) (.cells #[.int .i64 e] 3))).size) ?_; intro v2 w9 hG; rw [show (S.take k).map (fun i : Nat => i64 (i : Int)) ++ [.int .i64 e] = (S.take k ++ [e]).map (fun i : Nat => i64 (i : Int)) by rw [List.map_append]; rfl] at hG; have HH9 := Lib.hid (Hold.grow2 (Hold.later HH8.out (below_new (Below.refl _ _) (.cells #[.int .i64 e] 3))) rfl hG); clear hG; obtain ⟨A2, cp2, rfl⟩ := own_shape (Hold.has HH9.out 1 _ rfl); have HS2 := Lib.hid (src_part (Hold.has HH9.out 0 _ rfl) (one_nums S) k (S.length - k) (by omega)))
                | (at_builtin; refine list_append_grew rfl _ _ 58 rfl wo.heap.size 3 _ 1 8 elem_i64 (.slice A2 (k + 1) cp2) (k + 1) ((S.take k ++ [e]).map (fun i : Nat => i64 (i : Int))) rfl (Hold.has HH9.out 1 _ rfl) (some ⟨g, k, none⟩) (S.length - k) (cp - k) _ rfl HS2.out (by unfold maxLen; omega) (by omega) HH9.out.size ?_; intro v3 w10 hG; have hG2 : Grew w9 w10 wo.heap.size 3 1 (.slice A2 (k + 1) cp2) v3 (S.take k ++ e :: S.drop k).length ((S.take k ++ e :: S.drop k).map (fun i : Nat => i64 (i : Int))) := hG.eq (by rw [List.length_append, List.length_cons, List.length_take, List.length_drop]; omega) (parts_eq S k e); clear hG; have HH10 := Lib.hid (Hold.snd (Hold.grow2 HH9.out rfl hG2)); clear hG2; have hsh := row_shape (Hold.has HH10.out 0 _ rfl) (by rw [List.length_append, List.length_cons]; omega); obtain ⟨g3, cp3, rfl, hcp3, hg3⟩ := hsh))
              go_roundw
              case rel => exact ⟨e + 1, S.take k ++ e :: S.drop k, g3, cp3, by omega, by go_num, by congr 1 <;> (rw [List.length_append, List.length_cons, List.length_take, List.length_drop, Nat.min_eq_left hk] <;> omega), hcp3, HU.out.put HW.out.fit (by omega) HL.out hk HK.out (fun h => Int.not_lt.2 (HK2.out h)), HH10⟩
              case measure => first | omega | (simp [intOf]; done) | (simp [intOf]; omega)
          · have hkS' : ¬ (k : Int) < (S.length : Int) := by omega
            have HK2 : Hid (k < S.length → wkey ws e ≤ wkey ws (S.getD k 0)) := fun h => by omega
            obtain ⟨ee, hee⟩ : ∃ q, q = k := ⟨_, rfl⟩
            have HHc := Lib.hid (HH5.out.later HB.out)
            have HHa : Hid (Hold wo (wr.alloc (.cells #[] 3)) [tRow wo.heap.size 3 1 (.slice (some ⟨g, 0, none⟩) S.length cp) S.length (S.map (fun i : Nat => i64 (i : Int))), tRow wo.heap.size 3 1 (.slice (some ⟨wr.heap.size, 0, none⟩) 0 0) 0 []]) :=
              Hold.more HHc.out (below_new (Below.refl _ _) (.cells #[] 3)) (tRow_ok _ _ _ _ _ _) (tRow_made wr _ 3 1 HHc.out.size) tRow_new
            have hS1 := src_part (Hold.has HHa.out 0 _ rfl) (one_nums S) 0 k (by omega)
            have HS1 := Lib.hid hS1
            clear hS1 HHc
            go_wp2_with (first
              | (at_builtin; refine list_append_grew rfl _ _ 58 rfl wo.heap.size 3 _ 1 8 elem_i64 (.slice (some ⟨wr.heap.size, 0, none⟩) 0 0) 0 [] rfl (Hold.has HHa.out 1 _ rfl) (some ⟨g, 0, none⟩) k cp _ rfl HS1.out (by unfold maxLen; omega) (by omega) HHa.out.size ?_; intro v1 w8 hG; rw [Nat.zero_add, List.nil_append, List.drop_zero, ← List.map_take] at hG; have HH8 := Lib.hid (Hold.grow2 HHa.out rfl hG); clear hG; clear HS1; obtain ⟨A1, cp1, rfl⟩ := own_shape (Hold.has HH8.out 1 _ rfl))
              | (at_builtin; refine list_append_grew rfl _ _ 58 rfl wo.heap.size 3 _ 1 8 elem_i64 (.slice A1 k cp1) k ((S.take k).map (fun i : Nat => i64 (i : Int))) rfl (Hold.has (Hold.later HH8.out (below_new (Below.refl _ _) (.cells #[.int .i64 e] 3))) 1 _ rfl) (some ⟨_, 0, none⟩) 1 1 [.int .i64 e] rfl (src_list w8 [.int .i64 e] 3 1 1 rfl (one_int _ _)) (by unfold maxLen; omega) (by omega) ((Hold.later HH8.out (below_new (Below.refl _ _) (.cells #[.int .i64 e] 3))).size) ?_; intro v2 w9 hG; rw [show (S.take k).map (fun i : Nat => i64 (i : Int)) ++ [.int .i64 e] = (S.take k ++ [e]).map (fun i : Nat => i64 (i : Int)) by rw [List.map_append]; rfl] at hG; have HH9 := Lib.hid (Hold.grow2 (Hold.later HH8.out (below_new (Below.refl _ _) (.cells #[.int .i64 e] 3))) rfl hG); clear hG; obtain ⟨A2, cp2, rfl⟩ := own_shape (Hold.has HH9.out 1 _ rfl); have HS2 := Lib.hid (src_part (Hold.has HH9.out 0 _ rfl) (one_nums S) k (S.length - k) (by omega)))
              | (at_builtin; refine list_append_grew rfl _ _ 58 rfl wo.heap.size 3 _ 1 8 elem_i64 (.slice A2 (k + 1) cp2) (k + 1) ((S.take k ++ [e]).map (fun i : Nat => i64 (i : Int))) rfl (Hold.has HH9.out 1 _ rfl) _ _ _ [] rfl (src_none w9 _ _ (by omega)) (by unfold maxLen; omega) (by omega) HH9.out.size ?_; intro v3 w10 hG; have hG2 : Grew w9 w10 wo.heap.size 3 1 (.slice A2 (k + 1) cp2) v3 (S.take k ++ e :: S.drop k).length ((S.take k ++ e :: S.drop k).map (fun i : Nat => i64 (i : Int))) := hG.eq (by rw [List.length_append, List.length_cons, List.length_take, List.length_drop]; omega) (by rw [List.append_nil, List.drop_eq_nil_of_le (by omega)]); clear hG; have HH10 := Lib.hid (Hold.snd (Hold.grow2 HH9.out rfl hG2)); clear hG2; have hsh := row_shape (Hold.has HH10.out 0 _ rfl) (by rw [List.length_append, List.length_cons]; omega); obtain ⟨g3, cp3, rfl, hcp3, hg3⟩ := hsh))
            go_roundw
            case rel => exact ⟨e + 1, S.take k ++ e :: S.drop k, g3, cp3, by omega, by go_num, by congr 1 <;> (rw [List.length_append, List.length_cons, List.length_take, List.length_drop, Nat.min_eq_left hk] <;> omega), hcp3, HU.out.put HW.out.fit (by omega) HL.out hk HK.out (fun h => Int.not_lt.2 (HK2.out h)), HH10⟩
            case measure => first | omega | (simp [intOf]; done) | (simp [intOf]; omega)
      · have h1' : (x % 4 != 1) = true := by simp [h1]
        have HL : Hid (¬ live ws e) := by show ¬ (ws.getD e 0 % 4 = 1); rw [HX.out]; exact h1
        clear h1
        go_wp2_with fail
        go_roundw
        case rel => exact ⟨e + 1, S, g, cp, by omega, by go_num, rfl, hcp, HU.out.skip HL.out, HH5⟩
        case measure => first | omega | (simp [intOf]; done) | (simp [intOf]; omega)
    · have heN' : ¬ (e : Int) < (len : Int) := by omega
      obtain rfl : e = len := by omega
      go_wp2_with fail
      go_ret
      have HRW : Hid (World.ownsRow _ _ _ _ _ _ _) := Hold.has HH.out 0 _ rfl
      exact ⟨_, rfl, S, ⟨HU.out.rise, fun i => by rw [Hlen.out]; exact HU.out.mem i⟩, ⟨_, cp, rfl, hcp, fun _ => ⟨g, 0, rfl, fun i hi => by
        rw [Nat.zero_add, HRW.out.cellAt i (by omega), List.getElem?_map, List.getD_eq_getElem?_getD, List.getElem?_eq_getElem hi]
        rfl⟩⟩, HH.out.below, HRW.out⟩

theorem row_any (W : World) (a : Option Addr) (cap : Nat) (ws : List Int) (hW : IsWs W a ws) (hn : ws.length ≤ 100000) :
    Calls Try.prog 21 #[.slice a ws.length cap] W fun r w' => ∃ v S, r = .returned v ∧ IsOrder ws S ∧ IsInts w' v S ∧ Below W.heap.size W w' := by
  refine (row_own W a cap ws hW hn).mono ?_
  rintro r w' ⟨v, S, h1, h2, h3, h4, _⟩
  exact ⟨v, S, h1, h2, h3, h4⟩

end Go.Proofs.Yticphioeipbnmaa
