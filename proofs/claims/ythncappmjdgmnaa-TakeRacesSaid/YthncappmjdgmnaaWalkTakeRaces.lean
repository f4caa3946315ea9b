/-
  TakeRaces answers true for all numbers and all picks, and leaves all memory that was there as it was. No condition.
-/
import Derived.Test.YthncappmjdgmnaaTakeRacePure
namespace Go.Proofs.Ythncappmjdgmnaa
open Go.RowKit
set_option linter.unusedVariables false
attribute [local go_sem ↓] fld0

theorem elem_ta : ElemAt Try.prog 64 53 (.pointer none) 1 8 := ElemAt.mk' Try.underlying64 (by kernel_rfl) rfl (by decide)
theorem one_pt (b : Nat) : ∀ u ∈ [pt b], u.oneCell' = true := by
  intro u hu
  simp at hu
  rw [hu]
  rfl
theorem rows_ints9 {w : World} {a0 : Option Addr} {len cap : Nat} (h : IsRows w [.inl .i64] a0 len cap) :
    ∃ b off, ∃ X : Nat → Int, ∀ i, i < len → a0 = some ⟨b, off, none⟩ ∧ len ≤ cap ∧ b < w.heap.size ∧ w.cell? ⟨b, off + i, none⟩ = some (i64 (X i)) := by
  obtain ⟨h1, h2, h3, h4, h5⟩ := h
  rcases Nat.eq_zero_or_pos len with h0 | hl
  · exact ⟨0, 0, fun _ => 0, fun i hi => by omega⟩
  obtain ⟨b, off, rfl⟩ := h4 hl
  have hx : ∀ i, ∃ x : Int, i < len → w.cell? ⟨b, off + i, none⟩ = some (i64 x) := by
    intro i
    by_cases hi : i < len
    · obtain ⟨cs, hf, hc⟩ := h5 b off rfl i hi
      obtain ⟨c0, l0, rfl, r0, f0⟩ := fit_cons hf
      obtain ⟨x0, rfl, g0⟩ := r0
      have := hc 0 _ rfl
      simp only [List.length_cons, List.length_nil, Nat.zero_add, Nat.mul_one, Nat.add_zero] at this
      exact ⟨x0, fun _ => this⟩
    · exact ⟨0, fun h => absurd h hi⟩
  obtain ⟨X, hX⟩ := Classical.axiomOfChoice hx
  exact ⟨b, off, X, fun i hi => ⟨rfl, h1, World.block_lt_of_cell? w ⟨b, off + i, none⟩ (hX i hi), hX i hi⟩⟩

theorem conf9 (a0 : Int) (w : World) : Calls Try.prog 27 #[.int .i64 a0, .int .i64 0, .int .i64 0, .int .i64 0] w fun r w' => r = .returned (cf (1 + a0 % 4) 1 0 0) ∧ Below w.heap.size w w' := by
  have h := conf_at a0 0 0 w
  have e0 : IntKind.u64.wrap 0 = 0 := by rw [IntKind.wrap_u64]; omega
  have e1 : wrap64 (Int.tmod 0 5) = 0 := by first | decide | (simp [wrap64]; done) | (unfold wrap64; rfl)
  rw [e0, e1] at h
  exact h

set_option maxRecDepth 100000 in
set_option maxHeartbeats 8000000 in
theorem walk_TakeRaces (a0 : Int) (a1 : Option Addr) (len1 cap1 : Nat) (a2 : Int) (w : World) (w0 : (Lit.int .i64 a0).wf = true) (w1 : IsRows w [.inl .i64] a1 len1 cap1) (w2 : (Lit.int .u64 a2).wf = true) :
    Calls Try.prog 10 #[.int .i64 a0, .slice a1 len1 cap1, .int .u64 a2] w fun e w' => e = .returned (.bool true) ∧ Below w.heap.size w w' := by
  obtain ⟨x0, x1⟩ := bounds_u64 w2
  obtain ⟨ub, uff, Y, hY⟩ := rows_ints9 w1
  have HY := Lib.hid hY
  clear w0 w1 w2 hY
  by_cases hlen : 100 < len1
  · have hlen' : (100 : Int) < (len1 : Int) := by omega
    go_enter Try.func10, Try.ntmps10
    go_wp2_with fail
    refine (head9_any _).mono ?_
    rintro e w1 ⟨rfl, hb1⟩
    go_wp2_with fail
    go_ret
    exact ⟨rfl, hb1⟩
  have hlen' : ¬ (100 : Int) < (len1 : Int) := by omega
  have Hlen : Hid (len1 ≤ 100) := by show _ ≤ _; omega
  go_enter Try.func10, Try.ntmps10
  go_wp2_with fail
  refine (head9_any _).mono ?_
  rintro e w1 ⟨rfl, hb1⟩
  go_wp2_with fail
  refine (conf9 a0 _).mono ?_
  rintro e w2 ⟨rfl, hb2⟩
  have hB2 := Lib.hid (below_step hb1 hb2)
  clear hb1 hb2 hlen hlen'
  obtain ⟨tn, htn, t1, t2⟩ : ∃ tn : Nat, 1 + a0 % 4 = (tn : Int) ∧ 1 ≤ tn ∧ tn ≤ 4 := ⟨(1 + a0 % 4).toNat, by omega, by omega, by omega⟩
  rw [htn]
  clear htn
  have ht0 : ((tn : Int) == 0) = false := by simp; omega
  have hlay : Lay (tn : Int) 1 tn := ⟨by omega, by omega, by omega, by omega, by omega, by omega, by omega, by omega⟩
  have hA := AtC.made w2 tn 1 0 0
  have hB3 := below_new (Below.refl w2.heap.size w2) (.cells #[.int .i64 tn, .int .i64 1, .int .i64 0, .int .i64 0] 46)
  have hs3 : w2.heap.size < (w2.alloc (.cells #[.int .i64 tn, .int .i64 1, .int .i64 0, .int .i64 0] 46)).heap.size := by simp
  have HA := Lib.hid hA
  have HB := Lib.hid (below_step hB2.out hB3)
  have Hs := Lib.hid hs3
  have HBS : Hid (w.heap.size ≤ (w2.alloc (.cells #[.int .i64 tn, .int .i64 1, .int .i64 0, .int .i64 0] 46)).heap.size) := HB.out.size
  clear hA hB3 hs3 hB2
  have hp := fun W => pack_right 1 0 3 0 0 W (by decide)
  simp only [show (1 : Int) + 4 * 0 + 8 * 3 + 65536 * 0 + 1099511627776 * 0 = 25 from rfl] at hp
  have HP := Lib.hid hp
  clear hp
  have hp := fun W => pack_right 2 0 3 0 0 W (by decide)
  simp only [show (2 : Int) + 4 * 0 + 8 * 3 + 65536 * 0 + 1099511627776 * 0 = 26 from rfl] at hp
  have HP2 := Lib.hid hp
  clear hp
  go_wp2_with fail
  generalize w2.alloc (.cells #[.int .i64 tn, .int .i64 1, .int .i64 0, .int .i64 0] 46) = W at HA HB Hs HBS ⊢
  generalize w2.heap.size = cb at HA Hs ⊢
  clear w2 w1
  refine (ccells_any tn 1 0 0 tn _ hlay).mono ?_
  rintro r w3 ⟨rfl, hb3⟩
  obtain ⟨M, hM, hM4⟩ : ∃ M : Nat, 2 * (tn : Int) + 2 * (tn : Int) = (M : Int) ∧ M = 4 * tn := ⟨4 * tn, by omega, rfl⟩
  rw [hM]
  have HM4 := Lib.hid hM4
  clear hM hM4
  go_wp2_with fail
  refine (new_nat W.heap.size M M _ hb3.size (by have := HM4.out; omega) (.inl rfl)).mono ?_
  rintro r w4 ⟨p, c, rfl, hM4', hb4, hp, hc⟩
  have HH := Lib.hid (Hold.cells hb3 hM4' hb4 hp hc)
  have HL0 : Hid ((List.replicate M (0 : Int)).length = 4 * tn) := by show _ = _; rw [List.length_replicate]; exact HM4.out
  clear hM4' hb4 hp hc hb3
  go_wp2_with fail
  refine (HP.out _).mono ?_
  rintro r w5 ⟨rfl, hb5⟩
  have HH1 := Lib.hid (HH.out.later hb5)
  obtain ⟨q0, q1, q2, q3⟩ := HA.out.later HH1.out.below Hs.out
  clear hb5 HH HP
  go_wp2_with fail
  refine (word_at tn 1 0 0 0 0 _ rfl).mono ?_
  rintro r w6 ⟨rfl, hb6⟩
  have HH2 := Lib.hid (HH1.out.later hb6)
  clear hb6 HH1 q0 q1 q2 q3
  go_wp2_with fail
  refine (store_in W.heap.size _ p c _ _ _ (-1) 0 _ 25 (Hold.has HH2.out 0 _ rfl) (getD_in (by rw [HL0.out]; omega)) HH2.out.size (by decide) (by decide) (by decide)).mono ?_
  rintro r w7 ⟨rfl, v7, hT7⟩
  have HH3 := Lib.hid (HH2.out.mem 0 rfl hT7)
  clear hT7 HH2
  obtain ⟨q0, q1, q2, q3⟩ := HA.out.later HH3.out.below Hs.out
  go_wp2_with fail
  refine (value_at tn 1 0 0 tn 0 tn _ hlay (by decide) (by omega) (by omega)).mono ?_
  rintro r w8 ⟨rfl, hb8⟩
  have HH4 := Lib.hid (HH3.out.later hb8)
  clear hb8 HH3 q0 q1 q2 q3
  go_wp2_with fail
  refine (store_in W.heap.size _ p c _ _ _ (-1) tn _ a2 (Hold.has HH4.out 0 _ rfl) (getD_in (by rw [List.length_set, HL0.out]; omega)) HH4.out.size (by simp) x0 x1).mono ?_
  rintro r w9 ⟨rfl, v9, hT9⟩
  have HH5 := Lib.hid (HH4.out.mem 0 rfl hT9)
  clear hT9 HH4
  obtain ⟨C0, hC0, hCl, hCx, hCw⟩ : ∃ C0 : List Int, ((List.replicate M (0 : Int)).set 0 25).set tn a2 = C0 ∧ C0.length = 4 * tn ∧ C0.getD tn 0 = a2 ∧ C0.getD 0 0 = 25 := by
    have hl := HL0.out
    exact ⟨_, rfl, by rw [List.length_set, List.length_set, hl], getD_set_eq' _ (by rw [List.length_set, hl]; omega), by rw [getD_set_ne' _ (by omega), getD_set_eq' _ (by rw [hl]; omega)]⟩
  obtain ⟨L0, hL0, hLl⟩ : ∃ L0 : List Ev, ([] ++ [⟨-1, 1, ((0 : Nat) : Int), (List.replicate M (0 : Int)).getD 0 0, 25, true⟩] ++ [⟨-1, 1, (tn : Int), ((List.replicate M (0 : Int)).set 0 25).getD tn 0, a2, true⟩] : List Ev) = L0 ∧ L0.length ≤ 2 := ⟨_, rfl, by simp⟩
  have HH6 : Hid (Hold W w9 [tMem W.heap.size p c v9 C0 L0]) := by have := HH5.out; rw [← hL0, ← hC0]; exact this
  have HL := Lib.hid hLl
  have HW := Lib.hid hCw
  have HR0 : Hid (Race tn a2 0 C0 []) := Race.start t1 hCl hCx hCw
  have HH7 : Hid (RaceHold W (w9.alloc (.cells #[] 53)) 53 p c v9 C0 L0 (.slice (some ⟨w9.heap.size, 0, none⟩) 0 0) []) := RaceHold.start HH6.out
  clear HH5 hC0 hL0 hLl hCl hCx hCw HL0 HH6
  go_wp2_with fail
  go_loopw [10, 11] (fun va i wr => ∃ (e : Nat) (Ks : List (Nat × Ta)), e ≤ tn ∧ i = .int .i64 e ∧ Hid (RaceHold W wr 53 p c v9 C0 L0 va Ks) ∧ Hid (Race tn a2 e C0 Ks)) (fun _ i _ => tn - (intOf i).toNat)
  case atStart => exact ⟨0, [], by omega, rfl, HH7, HR0⟩
  case round =>
    clear HH7 HR0
    obtain ⟨e, Ks, he, rfl, HH, HR⟩ := hrel
    obtain ⟨A, cap, rfl⟩ := own_shape HH.out.row
    obtain ⟨q0, q1, q2, q3⟩ := HA.out.later HH.out.below Hs.out
    rcases Nat.lt_or_ge e tn with hlt | hge
    · have hlt' : (e : Int) < (tn : Int) := by omega
      go_wp2_with fail
      refine (tanew_any _ tn 1 0 0 e 0 25).mono ?_
      rintro r w10 ⟨b, rfl, hS, hb, hbb⟩
      have HS := Lib.hid hS
      have HBn := Lib.hid hb
      have HBb := Lib.hid hbb
      have HKl : Hid (Ks.length = e) := HR.out.len
      clear hS hb hbb q0 q1 q2 q3
      go_wp2_with (at_builtin; refine list_append_grew rfl _ _ 64 rfl W.heap.size 53 _ 1 8 elem_ta (.slice A Ks.length cap) Ks.length (Ks.map fun x => pt x.1) rfl (((HH.out.later HBn.out).later (below_new (Below.refl _ _) (.cells #[pt b] 53))).row) (some ⟨_, 0, none⟩) 1 1 [pt b] rfl (src_list w10 [pt b] 53 1 1 rfl (one_pt b)) (by have := HKl.out; unfold maxLen; omega) (by have := HKl.out; omega) (((HH.out.later HBn.out).later (below_new (Below.refl _ _) (.cells #[pt b] 53))).size) ?_; intro va' w11 hG; have HH8 := Lib.hid (HH.out.more (k := ta0 tn 1 0 0 e 0 25) HBn.out HS.out HBb.out (below_new (Below.refl _ _) (.cells #[pt b] 53)) hG); clear hG)
      have HR8 := Lib.hid (HR.out.more (b := b) HW.out hlt t2)
      go_roundw
      case rel => exact ⟨e + 1, _, by omega, by go_num, HH8, HR8⟩
      case measure => first | omega | (simp [intOf]; done) | (simp [intOf]; omega)
    · have hge' : ¬ (e : Int) < (tn : Int) := by omega
      have het : e = tn := by omega
      have HRt : Hid (Race tn a2 tn C0 Ks) := by have := HR.out; rw [het] at this; exact this
      have hkl : Ks.length = tn := HRt.out.len
      obtain ⟨g, cap', hv, hcc, _⟩ := row_shape HH.out.row (by omega)
      cases hv
      rw [hkl] at HH hcc ⊢
      clear HR hkl het he hge
      go_wp2_with fail
      clear q0 q1 q2 q3
      go_loopw [58] (fun i wr => ∃ (q : Nat) (v : Value) (C : List Int) (L : List Ev) (Ks : List (Nat × Ta)), q ≤ len1 ∧ i = .int .i64 q ∧ Hid (RaceHold W wr 53 p c v C L (.slice (some ⟨g, 0, none⟩) tn cap) Ks) ∧ Hid (Race tn a2 tn C Ks) ∧ Hid (L.length ≤ 2 + q)) (fun i _ => len1 - (intOf i).toNat)
      case atStart => exact ⟨0, v9, C0, L0, Ks, by omega, rfl, HH, HRt, HL⟩
      case round =>
        clear HH HRt HL
        obtain ⟨q, v, C, L, Ks, hq, rfl, HH, HR, HL⟩ := hrel
        obtain ⟨q0, q1, q2, q3⟩ := HA.out.later HH.out.below Hs.out
        rcases Nat.lt_or_ge q len1 with hlt | hge
        · obtain ⟨rfl, hcap1, htb, hx⟩ := HY.out q hlt
          have hx1 := ((below_step' HB.out HH.out.below HBS.out).cell (p := ⟨ub, uff + q, none⟩) htb).trans hx
          generalize Y q = pk at hx1
          obtain ⟨u, hu, u0, u1⟩ : ∃ u, bits .and .i64 pk 65535 = u ∧ 0 ≤ u ∧ u ≤ 65535 := ⟨_, and_ffff pk, by omega, by omega⟩
          obtain ⟨j, hj, hjt⟩ : ∃ j : Nat, u % (tn : Int) = (j : Int) ∧ j < tn := by
            have h1 := Int.emod_nonneg u (show (tn : Int) ≠ 0 by omega)
            have h2 := Int.emod_lt_of_pos u (show 0 < (tn : Int) by omega)
            exact ⟨(u % (tn : Int)).toNat, by omega, by omega⟩
          obtain ⟨b, k, hk⟩ : ∃ (b : Nat) (k : Ta), Ks[j]? = some (b, k) := ⟨_, _, List.getElem?_eq_getElem (by have := HR.out.len; omega)⟩
          have hc := HH.out.at' hk
          have HST := Lib.hid (HH.out.call hk (HR.out.ok j b k hk) (by have := HL.out; have := Hlen.out; omega))
          have HR4 := Lib.hid (HR.out.step hk)
          have HL4 : Hid ((L ++ k.ev 0 tn (2 * tn + j) C).length ≤ 2 + (q + 1)) := by rw [List.length_append]; have := HL.out; have := k.ev_le 0 tn (2 * tn + j) C; show _ ≤ _; omega
          have hlt' : (q : Int) < (len1 : Int) := by omega
          clear hk hx HR HL HH
          go_wp2_with fail
          refine HST.out.mono ?_
          rintro r w12 ⟨rfl, v12, hH12⟩
          have HH12 := Lib.hid hH12
          clear hH12 HST
          go_wp2_with fail
          go_roundw
          case rel => exact ⟨q + 1, _, _, _, _, by omega, by go_num, HH12, HR4, HL4⟩
          case measure => first | omega | (simp [intOf]; done) | (simp [intOf]; omega)
        · have hge' : ¬ (q : Int) < (len1 : Int) := by omega
          have HL5 : Hid (L.length ≤ 102 + 4 * 0) := by have := HL.out; have := Hlen.out; show _ ≤ _; omega
          have HF := Lib.hid HR.out.far0
          clear HL q0 q1 q2 q3
          go_wp2_with fail
          go_loopw [14] (fun i wr => ∃ (n : Nat) (v : Value) (C : List Int) (L : List Ev) (Ks : List (Nat × Ta)), n ≤ 6 ∧ i = .int .i64 n ∧ Hid (RaceHold W wr 53 p c v C L (.slice (some ⟨g, 0, none⟩) tn cap) Ks) ∧ Hid (Race tn a2 tn C Ks) ∧ Hid (FarAll n 0 Ks) ∧ Hid (L.length ≤ 102 + 4 * n)) (fun i _ => 9 - (intOf i).toNat)
          case atStart => exact ⟨0, v, C, L, Ks, by omega, rfl, HH, HR, HF, HL5⟩
          case round =>
            clear HH HR HF HL5
            obtain ⟨n, v, C, L, Ks, hn, rfl, HH, HR, HF, HL⟩ := hrel
            rcases Nat.lt_or_ge n 6 with hn6 | hn6
            · have hn6' : (n : Int) < 6 := by omega
              go_wp2_with fail
              go_loopw [79] (fun i wr => ∃ (e : Nat) (v : Value) (C : List Int) (L : List Ev) (Ks : List (Nat × Ta)), e ≤ tn ∧ i = .int .i64 e ∧ Hid (RaceHold W wr 53 p c v C L (.slice (some ⟨g, 0, none⟩) tn cap) Ks) ∧ Hid (Race tn a2 tn C Ks) ∧ Hid (FarAll n e Ks) ∧ Hid (L.length ≤ 102 + 4 * n + e)) (fun i _ => tn - (intOf i).toNat)
              case atStart => exact ⟨0, v, C, L, Ks, by omega, rfl, HH, HR, HF, HL⟩
              case round =>
                clear HH HR HF HL
                obtain ⟨e, v, C, L, Ks, he, rfl, HH, HR, HF, HL⟩ := hrel
                rcases Nat.lt_or_ge e tn with hlt | hge2
                · have hlt' : (e : Int) < (tn : Int) := by omega
                  obtain ⟨b, k, hk⟩ : ∃ (b : Nat) (k : Ta), Ks[e]? = some (b, k) := ⟨_, _, List.getElem?_eq_getElem (by have := HR.out.len; omega)⟩
                  have hc := HH.out.at' hk
                  have HST := Lib.hid (HH.out.call hk (HR.out.ok e b k hk) (by have := HL.out; omega))
                  have HR4 := Lib.hid (HR.out.step hk)
                  have HF4 := Lib.hid (HF.out.step HR.out hk)
                  have HL4 : Hid ((L ++ k.ev 0 tn (2 * tn + e) C).length ≤ 102 + 4 * n + (e + 1)) := by rw [List.length_append]; have := HL.out; have := k.ev_le 0 tn (2 * tn + e) C; show _ ≤ _; omega
                  clear hk HR HL HF HH
                  go_wp2_with fail
                  refine HST.out.mono ?_
                  rintro r w12 ⟨rfl, v12, hH12⟩
                  have HH12 := Lib.hid hH12
                  clear hH12 HST
                  go_wp2_with fail
                  go_roundw
                  case rel => exact ⟨e + 1, _, _, _, _, by omega, by go_num, HH12, HR4, HF4, HL4⟩
                  case measure => first | omega | (simp [intOf]; done) | (simp [intOf]; omega)
                · have hge3 : ¬ (e : Int) < (tn : Int) := by omega
                  have HF5 : Hid (FarAll (n + 1) 0 Ks) := FarAll.next (by rw [show Ks.length = e from by have := HR.out.len; omega]; exact HF.out)
                  have HL5 : Hid (L.length ≤ 102 + 4 * (n + 1)) := by have := HL.out; show _ ≤ _; omega
                  clear HF HL
                  go_wp2_with fail
                  go_roundw
                  case rel => exact ⟨n + 1, v, C, L, Ks, by omega, by go_num, HH, HR, HF5, HL5⟩
                  case measure => first | omega | (simp [intOf]; done) | (simp [intOf]; omega)
            · have hn6' : ¬ (n : Int) < 6 := by omega
              have hn' : n = 6 := by omega
              obtain ⟨hw26, i0, hi0, hall⟩ := HR.out.over (by have := HF.out; rw [hn'] at this; exact this) t1
              have HW26 := Lib.hid hw26
              have HALL := Lib.hid hall
              have HI0 := Lib.hid hi0
              have HCL : Hid (C.length = 4 * tn) := HR.out.cl
              have HKL : Hid (Ks.length = tn) := HR.out.len
              have HZ0 : Hid ((0 : Int) = if i0 < 0 then 1 else 0) := by show _ = _; rw [if_neg (by omega)]
              clear hw26 hall hi0 hn' HF HL HR
              go_wp2_with fail
              go_loopw [17, 89] (fun z i wr => ∃ (e : Nat) (zc : Int), e ≤ tn ∧ z = .int .i64 zc ∧ i = .int .i64 e ∧ Hid (zc = if i0 < e then 1 else 0) ∧ Hid (RaceHold W wr 53 p c v C L (.slice (some ⟨g, 0, none⟩) tn cap) Ks)) (fun _ i _ => tn - (intOf i).toNat)
              case atStart => exact ⟨0, 0, by omega, rfl, rfl, HZ0, HH⟩
              case round =>
                clear HH HZ0
                obtain ⟨e, zc, he, rfl, rfl, HZ, HH⟩ := hrel
                rcases Nat.lt_or_ge e tn with hlt | hge2
                · have hlt' : (e : Int) < (tn : Int) := by omega
                  obtain ⟨b, k, hk⟩ : ∃ (b : Nat) (k : Ta), Ks[e]? = some (b, k) := ⟨_, _, List.getElem?_eq_getElem (by have := HKL.out; omega)⟩
                  have hc := HH.out.at' hk
                  obtain ⟨hz0, hcase⟩ := HALL.out e b k hk
                  have HO := Lib.hid (HH.out.obj hk)
                  obtain ⟨hz, hhz⟩ : ∃ hz : Nat, 2 * tn + e = hz := ⟨_, rfl⟩
                  rw [hhz] at hz0
                  have HHZ := Lib.hid hhz
                  have HC0 := Lib.hid hz0
                  clear hk hhz hz0
                  rcases hcase with ⟨hei, hp1, hvx⟩ | ⟨hei, hp2⟩
                  · obtain rfl : zc = 0 := by rw [HZ.out, if_neg (by omega)]
                    have HZ1 : Hid ((1 : Int) = if i0 < e + 1 then 1 else 0) := by show _ = _; rw [if_pos (by omega)]
                    have HP := Lib.hid hp1
                    have HV : Hid ((if k.ph = 1 then k.value else 0) = a2) := by show _ = _; rw [if_pos hp1]; exact hvx
                    clear HZ hei hp1 hvx
                    go_wp2_with fail
                    refine (taphase_at 1 HP.out HO.out).mono ?_
                    rintro r wr2 ⟨rfl, rfl⟩
                    obtain ⟨q0, q1, q2, q3⟩ := HA.out.later HH.out.below Hs.out
                    go_wp2_with fail
                    refine (hazard_at tn 1 0 0 tn e hz _ hlay (by omega) (by omega) (by have := HHZ.out; omega)).mono ?_
                    rintro r w10 ⟨rfl, hb10⟩
                    have HH10 := Lib.hid (HH.out.later hb10)
                    have HO10 := Lib.hid (HO.out.later hb10)
                    clear hb10 HH HO q0 q1 q2 q3 hc
                    go_wp2_with fail
                    refine (peek_in W.heap.size _ p c _ _ _ hz 0 HH10.out.mem (by rw [getD_in (by have := HHZ.out; have := HCL.out; omega), HC0.out])).mono ?_
                    rintro r wr2 ⟨rfl, rfl⟩
                    go_wp2_with fail
                    refine (taphase_at 1 HP.out HO10.out).mono ?_
                    rintro r wr2 ⟨rfl, rfl⟩
                    go_wp2_with fail
                    refine (tavalue_at a2 HV.out HO10.out).mono ?_
                    rintro r wr2 ⟨rfl, rfl⟩
                    go_wp2_with fail
                    go_roundw
                    case rel => exact ⟨e + 1, 1, by omega, by first | rfl | go_num, by go_num, HZ1, HH10⟩
                    case measure => first | omega | (simp [intOf]; done) | (simp [intOf]; omega)
                  · have HZ1 : Hid (zc = if i0 < e + 1 then 1 else 0) := by
                      have := HZ.out
                      show _ = _
                      rw [this]
                      by_cases h : i0 < e
                      · rw [if_pos h, if_pos (by omega)]
                      · rw [if_neg h, if_neg (by omega)]
                    have HP := Lib.hid hp2
                    clear HZ hei hp2
                    go_wp2_with fail
                    refine (taphase_at 2 HP.out HO.out).mono ?_
                    rintro r wr2 ⟨rfl, rfl⟩
                    obtain ⟨q0, q1, q2, q3⟩ := HA.out.later HH.out.below Hs.out
                    go_wp2_with fail
                    refine (hazard_at tn 1 0 0 tn e hz _ hlay (by omega) (by omega) (by have := HHZ.out; omega)).mono ?_
                    rintro r w10 ⟨rfl, hb10⟩
                    have HH10 := Lib.hid (HH.out.later hb10)
                    have HO10 := Lib.hid (HO.out.later hb10)
                    clear hb10 HH HO q0 q1 q2 q3 hc
                    go_wp2_with fail
                    refine (peek_in W.heap.size _ p c _ _ _ hz 0 HH10.out.mem (by rw [getD_in (by have := HHZ.out; have := HCL.out; omega), HC0.out])).mono ?_
                    rintro r wr2 ⟨rfl, rfl⟩
                    go_wp2_with fail
                    refine (taphase_at 2 HP.out HO10.out).mono ?_
                    rintro r wr2 ⟨rfl, rfl⟩
                    go_wp2_with fail
                    go_roundw
                    case rel => exact ⟨e + 1, zc, by omega, by first | rfl | go_num, by go_num, HZ1, HH10⟩
                    case measure => first | omega | (simp [intOf]; done) | (simp [intOf]; omega)
                · have hge3 : ¬ (e : Int) < (tn : Int) := by omega
                  obtain rfl : zc = 1 := by rw [HZ.out, if_pos (by have := HI0.out; omega)]
                  obtain ⟨q0, q1, q2, q3⟩ := HA.out.later HH.out.below Hs.out
                  clear HZ
                  go_wp2_with fail
                  refine (word_at tn 1 0 0 0 0 _ rfl).mono ?_
                  rintro r w10 ⟨rfl, hb10⟩
                  have HH10 := Lib.hid (HH.out.later hb10)
                  clear hb10 HH q0 q1 q2 q3
                  go_wp2_with fail
                  refine (peek_in W.heap.size _ p c _ _ _ 0 26 HH10.out.mem (by rw [getD_in (by have := HCL.out; omega), HW26.out])).mono ?_
                  rintro r wr2 ⟨rfl, rfl⟩
                  go_wp2_with fail
                  refine (HP2.out _).mono ?_
                  rintro r w13 ⟨rfl, hb13⟩
                  have HH13 := Lib.hid (HH10.out.later hb13)
                  clear hb13
                  go_wp2_with fail
                  go_ret
                  exact ⟨rfl, below_step' HB.out HH13.out.below HBS.out⟩

end Go.Proofs.Ythncappmjdgmnaa
