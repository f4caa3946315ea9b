/-
  PickLess answers true for every list of words and either end, and leaves all memory that was there as it was. No condition.
-/
import Derived.Test.YthncappmjdgmnaaPickRow
namespace Go.Proofs.Ythncappmjdgmnaa
open Go.RowKit
set_option linter.unusedVariables false
attribute [local go_sem ↓] fld0 fld1 fld3

/-- What a live word is, taken. -/
def takenW (x : Int) : Int := 2 + 4 * (x / 4 % 2) + 8 * (x / 8 % 8192) + 65536 * (x / 65536 % 16777216) + 1099511627776 * (x / 1099511627776)
theorem takenW_fit {x : Int} (x0 : 0 ≤ x) (x1 : x ≤ 18446744073709551615) : takenW x % 4 = 2 ∧ 0 ≤ takenW x ∧ takenW x ≤ 18446744073709551615 := by
  unfold takenW
  omega

theorem getD_set_other (ws : List Int) (k : Nat) (y : Int) {i : Nat} (h : i ≠ k) : (ws.set k y).getD i 0 = ws.getD i 0 := by
  rw [List.getD_eq_getElem?_getD, List.getElem?_set_ne (fun e => h e.symm), ← List.getD_eq_getElem?_getD]
theorem getD_set_same (ws : List Int) (k : Nat) (y : Int) (h : k < ws.length) : (ws.set k y).getD k 0 = y := by
  rw [List.getD_eq_getElem?_getD, List.getElem?_set_self h]
  rfl
theorem fit_set {ws : List Int} {k : Nat} {y : Int} (hf : ∀ i, 0 ≤ ws.getD i 0 ∧ ws.getD i 0 ≤ 18446744073709551615) (hk : k < ws.length) (y0 : 0 ≤ y) (y1 : y ≤ 18446744073709551615) (i : Nat) : 0 ≤ (ws.set k y).getD i 0 ∧ (ws.set k y).getD i 0 ≤ 18446744073709551615 := by
  by_cases h : i = k
  · subst h
    rw [getD_set_same _ _ _ hk]
    exact ⟨y0, y1⟩
  · rw [getD_set_other _ _ _ h]
    exact hf i

/-- Without one of them the others stand as they did. -/
theorem order_without {ws : List Int} {S T : List Nat} {k : Nat} {y : Int} (h : IsOrder ws S) (hk : k < ws.length) (hy : y % 4 = 2) (hT : T.Sublist S) (hm : ∀ i, i ∈ T ↔ i ∈ S ∧ i ≠ k) : IsOrder (ws.set k y) T := by
  refine ⟨?_, fun i => ?_⟩
  · have h1 := h.rise.sublist hT
    refine List.Pairwise.imp_of_mem (fun {a b} ha hb hab => ?_) h1
    unfold wkey at hab ⊢
    rw [getD_set_other _ _ _ ((hm a).1 ha).2, getD_set_other _ _ _ ((hm b).1 hb).2]
    exact hab
  · rw [hm i, h.mem i, List.length_set]
    constructor
    · rintro ⟨⟨h1, h2⟩, h3⟩
      exact ⟨h1, by show (ws.set k y).getD i 0 % 4 = 1; rw [getD_set_other _ _ _ h3]; exact h2⟩
    · rintro ⟨h1, h2⟩
      have h2' : (ws.set k y).getD i 0 % 4 = 1 := h2
      by_cases h3 : i = k
      · subst h3
        rw [getD_set_same _ _ _ hk] at h2'
        omega
      · rw [getD_set_other _ _ _ h3] at h2'
        exact ⟨⟨h1, h2'⟩, h3⟩

theorem less_left {ws : List Int} {S : List Nat} {k : Nat} {y : Int} (h : IsOrder ws S) (hk : k < ws.length) (hl : live ws k) (hle : ∀ j, j < ws.length → live ws j → wkey ws k ≤ wkey ws j) (hy : y % 4 = 2) : ∃ T, S = k :: T ∧ IsOrder (ws.set k y) T := by
  have hm := (h.mem k).2 ⟨hk, hl⟩
  cases S with
  | nil => cases hm
  | cons a T =>
    have hp := List.pairwise_cons.1 h.rise
    have ha := (h.mem a).1 List.mem_cons_self
    have hak : a = k := by
      rcases List.mem_cons.1 hm with e | hT
      · exact e.symm
      · have h1 := hp.1 k hT
        have h2 := hle a ha.1 ha.2
        omega
    subst hak
    refine ⟨T, rfl, order_without h hk hy (List.sublist_cons_self _ _) (fun i => ?_)⟩
    constructor
    · intro hi
      refine ⟨List.mem_cons_of_mem _ hi, fun e => ?_⟩
      subst e
      have := hp.1 i hi
      omega
    · rintro ⟨h1, h2⟩
      rcases List.mem_cons.1 h1 with e | h3
      · exact absurd e h2
      · exact h3
theorem less_right {ws : List Int} {S : List Nat} {k : Nat} {y : Int} (h : IsOrder ws S) (hk : k < ws.length) (hl : live ws k) (hle : ∀ j, j < ws.length → live ws j → wkey ws j ≤ wkey ws k) (hy : y % 4 = 2) : ∃ T, S = T ++ [k] ∧ IsOrder (ws.set k y) T := by
  have hm := (h.mem k).2 ⟨hk, hl⟩
  have hne : S ≠ [] := fun e => by rw [e] at hm; cases hm
  obtain ⟨T, a, rfl⟩ : ∃ T a, S = T ++ [a] := ⟨S.dropLast, S.getLast hne, (List.dropLast_concat_getLast hne).symm⟩
  have hp := List.pairwise_append.1 h.rise
  have ha := (h.mem a).1 (by simp)
  have hak : a = k := by
    rcases List.mem_append.1 hm with hT | e
    · have h1 := hp.2.2 k hT a (by simp)
      have h2 := hle a ha.1 ha.2
      omega
    · exact (List.mem_singleton.1 e).symm
  subst hak
  refine ⟨T, rfl, order_without h hk hy (List.sublist_append_left _ _) (fun i => ?_)⟩
  constructor
  · intro hi
    refine ⟨List.mem_append_left _ hi, fun e => ?_⟩
    subst e
    have := hp.2.2 i hi i (by simp)
    omega
  · rintro ⟨h1, h2⟩
    rcases List.mem_append.1 h1 with h3 | h3
    · exact h3
    · exact absurd (by simpa using h3) h2

set_option maxRecDepth 100000 in
set_option maxHeartbeats 8000000 in
theorem walk_PickLess (a0 : Option Addr) (len0 cap0 : Nat) (a1 : Bool) (w : World) (w0 : IsRows w [.inl .u64] a0 len0 cap0) :
    Calls Try.prog 6 #[.slice a0 len0 cap0, .bool a1] w fun e w' => e = .returned (.bool true) ∧ Below w.heap.size w w' := by
  obtain ⟨ws, rfl, hW⟩ := rows_words w0
  clear w0
  have HW := Lib.hid hW
  clear hW
  by_cases hbig : 60 < ws.length
  · have hbig' : (60 : Int) < (ws.length : Int) := by omega
    go_enter Try.func6, Try.ntmps6
    go_wp2_with fail
    refine (head8_any _).mono ?_
    rintro e w1 ⟨rfl, hb1⟩
    go_wp2_with fail
    go_ret
    exact ⟨rfl, hb1⟩
  have p0 : decide ((60 : Int) < (ws.length : Int)) = false := decide_eq_false (by omega)
  obtain ⟨len, hlen⟩ : ∃ len : Nat, ws.length = len := ⟨_, rfl⟩
  have Hlen := Lib.hid hlen
  have hord := fun W => order_any W a0 cap0 ws
  have hat := fun W ee he => at_any W a0 cap0 ws ee he
  rw [hlen] at hbig p0 hord hat ⊢
  have HORD := Lib.hid hord
  have HAT := Lib.hid hat
  clear hlen hord hat
  cases a1 with
  | false =>
    go_enter Try.func6, Try.ntmps6
    go_wp2_with fail
    refine (head8_any _).mono ?_
    rintro e w1 ⟨rfl, hb1⟩
    have HB1 := Lib.hid hb1
    clear hb1
    go_wp2_with fail
    refine (HORD.out _ (HW.out.later HB1.out) (by omega)).mono ?_
    rintro r w2 ⟨v, S, rfl, ho, hi, hb2⟩
    have HB2 := Lib.hid (below_step HB1.out hb2)
    clear hb2 HB1
    obtain ⟨A, c1, rfl, hc1, hi1⟩ := id hi.has
    have HI := Lib.hid hi
    have HO := Lib.hid ho
    have hSl := ho.len
    rw [Hlen.out] at hSl
    clear hi hi1 ho
    go_wp2_with fail
    refine (HAT.out _ 0 (.inl rfl) (HW.out.later HB2.out) (by omega)).mono ?_
    rintro r w3 ⟨z, rfl, hz, hb3⟩
    have HB3 := Lib.hid (below_step HB2.out hb3)
    replace HI := Lib.hid (HI.out.later hb3)
    clear hb3 HB2
    rcases hz with ⟨rfl, hno⟩ | ⟨k, rfl, k1, k2, k3⟩
    · have hS0 : S = [] := by
        cases S with
        | nil => rfl
        | cons a T => exact absurd ((HO.out.mem a).1 List.mem_cons_self).2 (hno a ((HO.out.mem a).1 List.mem_cons_self).1)
      subst hS0
      clear hno
      go_wp2_with fail
      go_ret
      exact ⟨rfl, HB3.out⟩
    · replace k3 : ∀ j, j < ws.length → live ws j → wkey ws k ≤ wkey ws j := fun j a b => by have := k3 j a b; rwa [if_pos rfl] at this
      obtain ⟨b, off, rfl, hc⟩ := HW.out.has (by omega)
      rw [Hlen.out] at k1
      have hf := HW.out.fit k
      have hx := (below_rule HB3.out _ (by rw [hc k (by have := Hlen.out; omega)]; rfl)).trans (hc k (by have := Hlen.out; omega))
      obtain ⟨x, hxe⟩ : ∃ x : Int, ws.getD k 0 = x := ⟨_, rfl⟩
      rw [hxe] at hx hf
      obtain ⟨x0, x1⟩ := hf
      obtain ⟨t1, t2, t3⟩ := takenW_fit x0 x1
      obtain ⟨T, hST, hOT⟩ := less_left HO.out (by rw [Hlen.out]; exact k1) k2 k3 t1
      have HFT := Lib.hid (fit_set HW.out.fit (by rw [Hlen.out]; exact k1) t2 t3)
      have hTl : S.length = T.length + 1 := by rw [hST]; simp
      have HST := Lib.hid hST
      have HOT := Lib.hid hOT
      have k0' : (0 : Int) ≤ (k : Int) := by omega
      have k1' : (k : Int) < (len : Int) := by omega
      clear hxe hc k2 k3 t1 t2 t3 hST hOT HO
      have HWr := Lib.hid (HW.out.later HB3.out)
      obtain ⟨wo, rfl⟩ : ∃ wo : World, wo = w3 := ⟨_, rfl⟩
      have HHa : Hid (Hold wo (wo.alloc (.cells #[] 29)) [tRow wo.heap.size 29 1 (.slice (some ⟨wo.heap.size, 0, none⟩) 0 0) 0 []]) :=
        Hold.more (l := []) (Hold.nil (Below.refl _ _)) (below_new (Below.refl _ _) (.cells #[] 29)) (tRow_ok _ _ _ _ _ _) (tRow_made wo _ 29 1 (Nat.le_refl _)) tRow_new
      have hS1 := src_words (HWr.out.later (below_new (Below.refl _ _) (.cells #[] 29)))
      rw [Hlen.out] at hS1
      have HS1 := Lib.hid hS1
      clear hS1
      have HX := Lib.hid hx
      clear hx
      go_wp2_with (at_builtin; refine list_append_grew rfl _ _ 22 rfl wo.heap.size 29 _ 1 8 elem_u64 (.slice (some ⟨wo.heap.size, 0, none⟩) 0 0) 0 [] rfl (Hold.has HHa.out 0 _ rfl) (some ⟨b, off, none⟩) len cap0 _ rfl HS1.out (by unfold maxLen; omega) (by omega) HHa.out.size ?_; intro v1 w8 hG; rw [Nat.zero_add, List.nil_append] at hG; have HH8 := Lib.hid (HHa.out.append 0 rfl rfl hG); clear hG; clear HS1; have hsh := row_shape (Hold.has HH8.out 0 _ rfl) (by omega); obtain ⟨g3, cp3, rfl, hcp3, hg3⟩ := hsh; have hx := (below_rule HH8.out.below _ (by rw [HX.out]; rfl)).trans HX.out)
      refine (unpack_any x _ x0 x1).mono ?_
      rintro r w9 ⟨rfl, hb9⟩
      have HH9 := Lib.hid (HH8.out.later hb9)
      clear hb9 hx HH8 hg3
      go_wp2_with fail
      refine (taken_any _ _ _ _ _ _).mono ?_
      rintro r w10 ⟨rfl, hb10⟩
      have HH10 := Lib.hid (HH9.out.later hb10)
      clear hb10 HH9
      go_wp2_with fail
      refine (pack_right 2 (x / 4 % 2) (x / 8 % 8192) (x / 65536 % 16777216) (x / 1099511627776) _ ⟨by omega, by omega, by omega, by omega, by omega, by omega, by omega, by omega, by omega, by omega⟩).mono ?_
      rintro r w11 ⟨rfl, hb11⟩
      have HH11 := Lib.hid (HH10.out.later hb11)
      clear hb11 HH10
      rw [show 2 + 4 * (x / 4 % 2) + 8 * (x / 8 % 8192) + 65536 * (x / 65536 % 16777216) + 1099511627776 * (x / 1099511627776) = takenW x from rfl]
      obtain ⟨y, hy⟩ : ∃ y : Int, takenW x = y := ⟨_, rfl⟩
      rw [hy] at HFT HOT ⊢
      clear hy
      have hrow : World.ownsRow _ _ _ _ _ _ _ := Hold.has HH11.out 0 _ rfl
      have q1 : w11.cell? ⟨g3, k, none⟩ = some (u64 (ws.getD k 0)) := row_at hrow k1
      have q2 := hrow.frozenAt k
      clear hrow
      go_wp2_with fail
      have HH12 := Lib.hid (HH11.out.stored 0 rfl k (.int .u64 y))
      clear q1 q2 HH11
      rw [show (ws.map (Value.int .u64)).set k (.int .u64 y) = (ws.set k y).map (Value.int .u64) by rw [List.map_set]] at HH12
      generalize w11.setCell ⟨g3, k, none⟩ (.int .u64 y) = w12 at HH12 ⊢
      have hor := order_any w12 (some ⟨g3, 0, none⟩) cp3 (ws.set k y) (ws_of_row (Hold.has HH12.out 0 _ rfl) HFT.out) (by rw [List.length_set]; have := Hlen.out; omega)
      rw [List.length_set, Hlen.out] at hor
      refine hor.mono ?_
      rintro r w13 ⟨v', T', rfl, ho', hi', hb13⟩
      obtain rfl := HOT.out.one ho'
      have HB13 := Lib.hid (below_step HH12.out.below hb13)
      replace HI := Lib.hid (HI.out.later HB13.out)
      obtain ⟨A', c2, rfl, hc2, hi2⟩ := id hi'.has
      have HI2 := Lib.hid hi'
      clear hi' hi2 hb13 hor ho' HH12
      have HJ : Hid (∀ e : Nat, e < T.length → ∃ b off b' off', A = some ⟨b, off, none⟩ ∧ A' = some ⟨b', off', none⟩ ∧ w13.cell? ⟨b, off + (e + 1), none⟩ = some (i64 (T.getD e 0 : Nat)) ∧ w13.cell? ⟨b', off' + e, none⟩ = some (i64 (T.getD e 0 : Nat))) := fun e he => by
        obtain ⟨y1, y2, hv, y3, y4⟩ := HI.out.has
        cases hv
        obtain ⟨b, off, rfl, h1⟩ := y4 (by omega)
        obtain ⟨y1', y2', hv', y3', y4'⟩ := HI2.out.has
        cases hv'
        obtain ⟨b', off', rfl, h2⟩ := y4' (by omega)
        refine ⟨b, off, b', off', rfl, rfl, ?_, h2 e he⟩
        rw [h1 (e + 1) (by omega), HST.out]
        rfl
      clear HI HI2
      obtain ⟨ww, rfl⟩ : ∃ ww : World, ww = w13 := ⟨_, rfl⟩
      have hlq : ((T.length : Int) != (S.length : Int) - 1) = false := by simp; omega
      go_wp2_with fail
      go_loopw [56] (fun i wr => ∃ (e : Nat), e ≤ T.length ∧ i = .int .i64 e ∧ Hid (Below ww.heap.size ww wr)) (fun i _ => T.length - (intOf i).toNat)
      case atStart => exact ⟨0, by omega, rfl, Below.refl _ _⟩
      case round =>
        obtain ⟨e, he, rfl, HB⟩ := hrel
        rcases Nat.lt_or_ge e T.length with heN | heN
        · have heN' : (e : Int) < (T.length : Int) := by omega
          obtain ⟨b1, off1, b', off', rfl, rfl, z1, z2⟩ := HJ.out e heN
          replace z1 := (below_rule HB.out _ (by rw [z1]; rfl)).trans z1
          replace z2 := (below_rule HB.out _ (by rw [z2]; rfl)).trans z2
          have hwr : IntKind.i64.wrap ((e : Int) + 1) = (e : Int) + 1 := IntWalk.i64_in _ (by omega)
          have hwe : (e : Int) + 1 < (S.length : Int) := by omega
          have hwz : (0 : Int) ≤ (e : Int) + 1 := by omega
          go_wp2_with fail
          refine wp_region_seq ((0, true) :: (1, true) :: (2, true) :: (3, true) :: (4, true) :: (5, true) :: (6, true) :: (7, true) :: (8, true) :: (9, true) :: (10, true) :: []) (by kernel_rfl) (by kernel_rfl) (by kernel_rfl) (by decide) (fun _ _ _ _ _ h => h) (fun hHeld => ?_)
          repeat (first
            | (refine seq_take (v := ?_) rfl ?_ ?_ ?_; rotate_left 1; rfl; (focus (intro wS hSw; have hk := below_rule hSw; go_simp; first | done | with_reducible rfl)); (try simp only [Act.put, List.setIfInBounds_toArray, List.set_cons_zero, List.set_cons_succ]))
            | (refine seq_skip rfl ?_ ?_; rfl; (try simp only [Act.put, List.setIfInBounds_toArray, List.set_cons_zero, List.set_cons_succ]))
            | (refine seq_run rfl (fun K hK => ?_); go_simp; (try skip); (try go_wp2_with fail); refine hK.out _ _ ?_ ?_; (focus (first | exact below_step hHeld hb' | exact below_new hHeld _ | exact hHeld)); (try clear hb'); clear hHeld hK K; intro hHeld; (try simp only [Act.put, List.setIfInBounds_toArray, List.set_cons_zero, List.set_cons_succ])))
          first | refine seq_done ?_ | skip
          replace HB := Lib.hid (below_step HB.out hHeld)
          clear hHeld z1 z2
          go_wp2_with fail
          go_roundw
          case rel => exact ⟨e + 1, by omega, by go_num, HB⟩
          case measure => first | omega | (simp [intOf]; done) | (simp [intOf]; omega)
        · have heN' : ¬ (e : Int) < (T.length : Int) := by omega
          go_wp2_with fail
          go_ret
          exact ⟨rfl, below_step HB3.out (below_step HB13.out HB.out)⟩
  | true =>
    go_enter Try.func6, Try.ntmps6
    go_wp2_with fail
    refine (head8_any _).mono ?_
    rintro e w1 ⟨rfl, hb1⟩
    have HB1 := Lib.hid hb1
    clear hb1
    go_wp2_with fail
    refine (HORD.out _ (HW.out.later HB1.out) (by omega)).mono ?_
    rintro r w2 ⟨v, S, rfl, ho, hi, hb2⟩
    have HB2 := Lib.hid (below_step HB1.out hb2)
    clear hb2 HB1
    obtain ⟨A, c1, rfl, hc1, hi1⟩ := id hi.has
    have HI := Lib.hid hi
    have HO := Lib.hid ho
    have hSl := ho.len
    rw [Hlen.out] at hSl
    clear hi hi1 ho
    go_wp2_with fail
    refine (HAT.out _ 1 (.inr rfl) (HW.out.later HB2.out) (by omega)).mono ?_
    rintro r w3 ⟨z, rfl, hz, hb3⟩
    have HB3 := Lib.hid (below_step HB2.out hb3)
    replace HI := Lib.hid (HI.out.later hb3)
    clear hb3 HB2
    rcases hz with ⟨rfl, hno⟩ | ⟨k, rfl, k1, k2, k3⟩
    · have hS0 : S = [] := by
        cases S with
        | nil => rfl
        | cons a T => exact absurd ((HO.out.mem a).1 List.mem_cons_self).2 (hno a ((HO.out.mem a).1 List.mem_cons_self).1)
      subst hS0
      clear hno
      go_wp2_with fail
      go_ret
      exact ⟨rfl, HB3.out⟩
    · replace k3 : ∀ j, j < ws.length → live ws j → wkey ws j ≤ wkey ws k := fun j a b => by have := k3 j a b; rwa [if_neg (by decide)] at this
      obtain ⟨b, off, rfl, hc⟩ := HW.out.has (by omega)
      rw [Hlen.out] at k1
      have hf := HW.out.fit k
      have hx := (below_rule HB3.out _ (by rw [hc k (by have := Hlen.out; omega)]; rfl)).trans (hc k (by have := Hlen.out; omega))
      obtain ⟨x, hxe⟩ : ∃ x : Int, ws.getD k 0 = x := ⟨_, rfl⟩
      rw [hxe] at hx hf
      obtain ⟨x0, x1⟩ := hf
      obtain ⟨t1, t2, t3⟩ := takenW_fit x0 x1
      obtain ⟨T, hST, hOT⟩ := less_right HO.out (by rw [Hlen.out]; exact k1) k2 k3 t1
      have HFT := Lib.hid (fit_set HW.out.fit (by rw [Hlen.out]; exact k1) t2 t3)
      have hTl : S.length = T.length + 1 := by rw [hST]; simp
      have HST := Lib.hid hST
      have HOT := Lib.hid hOT
      have k0' : (0 : Int) ≤ (k : Int) := by omega
      have k1' : (k : Int) < (len : Int) := by omega
      clear hxe hc k2 k3 t1 t2 t3 hST hOT HO
      have HWr := Lib.hid (HW.out.later HB3.out)
      obtain ⟨wo, rfl⟩ : ∃ wo : World, wo = w3 := ⟨_, rfl⟩
      have HHa : Hid (Hold wo (wo.alloc (.cells #[] 29)) [tRow wo.heap.size 29 1 (.slice (some ⟨wo.heap.size, 0, none⟩) 0 0) 0 []]) :=
        Hold.more (l := []) (Hold.nil (Below.refl _ _)) (below_new (Below.refl _ _) (.cells #[] 29)) (tRow_ok _ _ _ _ _ _) (tRow_made wo _ 29 1 (Nat.le_refl _)) tRow_new
      have hS1 := src_words (HWr.out.later (below_new (Below.refl _ _) (.cells #[] 29)))
      rw [Hlen.out] at hS1
      have HS1 := Lib.hid hS1
      clear hS1
      have HX := Lib.hid hx
      clear hx
      go_wp2_with (at_builtin; refine list_append_grew rfl _ _ 22 rfl wo.heap.size 29 _ 1 8 elem_u64 (.slice (some ⟨wo.heap.size, 0, none⟩) 0 0) 0 [] rfl (Hold.has HHa.out 0 _ rfl) (some ⟨b, off, none⟩) len cap0 _ rfl HS1.out (by unfold maxLen; omega) (by omega) HHa.out.size ?_; intro v1 w8 hG; rw [Nat.zero_add, List.nil_append] at hG; have HH8 := Lib.hid (HHa.out.append 0 rfl rfl hG); clear hG; clear HS1; have hsh := row_shape (Hold.has HH8.out 0 _ rfl) (by omega); obtain ⟨g3, cp3, rfl, hcp3, hg3⟩ := hsh; have hx := (below_rule HH8.out.below _ (by rw [HX.out]; rfl)).trans HX.out)
      refine (unpack_any x _ x0 x1).mono ?_
      rintro r w9 ⟨rfl, hb9⟩
      have HH9 := Lib.hid (HH8.out.later hb9)
      clear hb9 hx HH8 hg3
      go_wp2_with fail
      refine (taken_any _ _ _ _ _ _).mono ?_
      rintro r w10 ⟨rfl, hb10⟩
      have HH10 := Lib.hid (HH9.out.later hb10)
      clear hb10 HH9
      go_wp2_with fail
      refine (pack_right 2 (x / 4 % 2) (x / 8 % 8192) (x / 65536 % 16777216) (x / 1099511627776) _ ⟨by omega, by omega, by omega, by omega, by omega, by omega, by omega, by omega, by omega, by omega⟩).mono ?_
      rintro r w11 ⟨rfl, hb11⟩
      have HH11 := Lib.hid (HH10.out.later hb11)
      clear hb11 HH10
      rw [show 2 + 4 * (x / 4 % 2) + 8 * (x / 8 % 8192) + 65536 * (x / 65536 % 16777216) + 1099511627776 * (x / 1099511627776) = takenW x from rfl]
      obtain ⟨y, hy⟩ : ∃ y : Int, takenW x = y := ⟨_, rfl⟩
      rw [hy] at HFT HOT ⊢
      clear hy
      have hrow : World.ownsRow _ _ _ _ _ _ _ := Hold.has HH11.out 0 _ rfl
      have q1 : w11.cell? ⟨g3, k, none⟩ = some (u64 (ws.getD k 0)) := row_at hrow k1
      have q2 := hrow.frozenAt k
      clear hrow
      go_wp2_with fail
      have HH12 := Lib.hid (HH11.out.stored 0 rfl k (.int .u64 y))
      clear q1 q2 HH11
      rw [show (ws.map (Value.int .u64)).set k (.int .u64 y) = (ws.set k y).map (Value.int .u64) by rw [List.map_set]] at HH12
      generalize w11.setCell ⟨g3, k, none⟩ (.int .u64 y) = w12 at HH12 ⊢
      have hor := order_any w12 (some ⟨g3, 0, none⟩) cp3 (ws.set k y) (ws_of_row (Hold.has HH12.out 0 _ rfl) HFT.out) (by rw [List.length_set]; have := Hlen.out; omega)
      rw [List.length_set, Hlen.out] at hor
      refine hor.mono ?_
      rintro r w13 ⟨v', T', rfl, ho', hi', hb13⟩
      obtain rfl := HOT.out.one ho'
      have HB13 := Lib.hid (below_step HH12.out.below hb13)
      replace HI := Lib.hid (HI.out.later HB13.out)
      obtain ⟨A', c2, rfl, hc2, hi2⟩ := id hi'.has
      have HI2 := Lib.hid hi'
      clear hi' hi2 hb13 hor ho' HH12
      have HJ : Hid (∀ e : Nat, e < T.length → ∃ b off b' off', A = some ⟨b, off, none⟩ ∧ A' = some ⟨b', off', none⟩ ∧ w13.cell? ⟨b, off + e, none⟩ = some (i64 (T.getD e 0 : Nat)) ∧ w13.cell? ⟨b', off' + e, none⟩ = some (i64 (T.getD e 0 : Nat))) := fun e he => by
        obtain ⟨y1, y2, hv, y3, y4⟩ := HI.out.has
        cases hv
        obtain ⟨b, off, rfl, h1⟩ := y4 (by omega)
        obtain ⟨y1', y2', hv', y3', y4'⟩ := HI2.out.has
        cases hv'
        obtain ⟨b', off', rfl, h2⟩ := y4' (by omega)
        refine ⟨b, off, b', off', rfl, rfl, ?_, h2 e he⟩
        rw [h1 e (by omega), HST.out]
        rw [List.getD_eq_getElem?_getD, List.getElem?_append_left he, ← List.getD_eq_getElem?_getD]
      clear HI HI2
      obtain ⟨ww, rfl⟩ : ∃ ww : World, ww = w13 := ⟨_, rfl⟩
      have hlq : ((T.length : Int) != (S.length : Int) - 1) = false := by simp; omega
      go_wp2_with fail
      go_loopw [56] (fun i wr => ∃ (e : Nat), e ≤ T.length ∧ i = .int .i64 e ∧ Hid (Below ww.heap.size ww wr)) (fun i _ => T.length - (intOf i).toNat)
      case atStart => exact ⟨0, by omega, rfl, Below.refl _ _⟩
      case round =>
        obtain ⟨e, he, rfl, HB⟩ := hrel
        rcases Nat.lt_or_ge e T.length with heN | heN
        · have heN' : (e : Int) < (T.length : Int) := by omega
          obtain ⟨b1, off1, b', off', rfl, rfl, z1, z2⟩ := HJ.out e heN
          replace z1 := (below_rule HB.out _ (by rw [z1]; rfl)).trans z1
          replace z2 := (below_rule HB.out _ (by rw [z2]; rfl)).trans z2
          have hwr : IntKind.i64.wrap (e : Int) = (e : Int) := IntWalk.i64_in _ (by omega)
          have hwe : (e : Int) < (T.length : Int) + 1 := by omega
          go_wp2_with fail
          refine wp_region_seq ((0, true) :: (1, true) :: (2, true) :: (3, true) :: (4, true) :: (5, true) :: (6, true) :: (7, true) :: (8, true) :: (9, true) :: (10, true) :: []) (by kernel_rfl) (by kernel_rfl) (by kernel_rfl) (by decide) (fun _ _ _ _ _ h => h) (fun hHeld => ?_)
          repeat (first
            | (refine seq_take (v := ?_) rfl ?_ ?_ ?_; rotate_left 1; rfl; (focus (intro wS hSw; have hk := below_rule hSw; go_simp; first | done | with_reducible rfl)); (try simp only [Act.put, List.setIfInBounds_toArray, List.set_cons_zero, List.set_cons_succ]))
            | (refine seq_skip rfl ?_ ?_; rfl; (try simp only [Act.put, List.setIfInBounds_toArray, List.set_cons_zero, List.set_cons_succ]))
            | (refine seq_run rfl (fun K hK => ?_); go_simp; (try skip); (try go_wp2_with fail); refine hK.out _ _ ?_ ?_; (focus (first | exact below_step hHeld hb' | exact below_new hHeld _ | exact hHeld)); (try clear hb'); clear hHeld hK K; intro hHeld; (try simp only [Act.put, List.setIfInBounds_toArray, List.set_cons_zero, List.set_cons_succ])))
          first | refine seq_done ?_ | skip
          replace HB := Lib.hid (below_step HB.out hHeld)
          clear hHeld z1 z2
          go_wp2_with fail
          go_roundw
          case rel => exact ⟨e + 1, by omega, by go_num, HB⟩
          case measure => first | omega | (simp [intOf]; done) | (simp [intOf]; omega)
        · have heN' : ¬ (e : Int) < (T.length : Int) := by omega
          go_wp2_with fail
          go_ret
          exact ⟨rfl, below_step HB3.out (below_step HB13.out HB.out)⟩

end Go.Proofs.Ythncappmjdgmnaa
