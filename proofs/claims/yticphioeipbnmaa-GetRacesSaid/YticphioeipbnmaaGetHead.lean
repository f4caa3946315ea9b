/-
  The example at the head of every law on gets answers true. No condition.
-/
import Derived.Test.YticphioeipbnmaaGetOne
namespace Go.Proofs.Yticphioeipbnmaa
open Go.RowKit
set_option linter.unusedVariables false

theorem gvalue_at (t s so d n i : Int) (j : Nat) (w : World) (h : Lay t s n) (i0 : 0 ≤ i) (i1 : i ≤ n) (hj : n + i = (j : Int)) :
    Calls Try.prog 18 #[cf t s so d, i64 i] w fun r w' => r = .returned (i64 j) ∧ Below w.heap.size w w' := by
  rw [← hj]
  exact cvalue_any t s so d n i w h i0 i1
theorem gword_at (t s so d i : Int) (j : Nat) (w : World) (hj : i = (j : Int)) :
    Calls Try.prog 15 #[cf t s so d, i64 i] w fun r w' => r = .returned (i64 j) ∧ Below w.heap.size w w' := by
  rw [← hj]
  exact cword_any t s so d i w
/-- The document's example: the cells, empty and with one thing. -/
def gC0 : List Int := [0, 0, 0, 0, 0, 0, 0, 0, 0, 0, 0, 0]
def gC1 : List Int := [0, 0, 0, 9, 0, 0, 0, 5, 0, 0, 0, 0]
def gG0 : Ge := ge0 2 2 0 0 0 0 0 4
def gG1 : Ge := ge0 2 2 0 0 0 0 1 4
theorem gA0 : GA gG0 gC0 gC0 4 8 0 := GA.start lay22 rfl rfl (by decide) (by decide) (.inl rfl)
theorem gA1 : GA gG1 gC1 gC1 4 8 0 := GA.start lay22 rfl rfl (by decide) (by decide) (.inl rfl)
theorem gE0 {e z : Int} (h : IsEnd (gC0.take 4) e z) : z = -1 := by
  rcases h with ⟨h, _⟩ | ⟨i, _, h1, h2, _⟩
  · exact h
  · exfalso
    have : ∀ i, i < 4 → ¬ live (gC0.take 4) i := by decide
    exact this i h1 h2
theorem gE1 {e z : Int} (h : IsEnd (gC1.take 4) e z) : z = 3 := by
  rcases h with ⟨_, h⟩ | ⟨i, h0, h1, h2, _⟩
  · exact absurd (by decide : live (gC1.take 4) 3) (h 3 (by decide))
  · have : ∀ i, i < 4 → live (gC1.take 4) i → i = 3 := by decide
    have := this i h1 h2
    omega

set_option maxRecDepth 100000 in
set_option maxHeartbeats 8000000 in
theorem head11_any (w : World) : Calls Try.prog 7 #[] w fun r w' => r = .returned (.bool true) ∧ Below w.heap.size w w' := by
  have hA := AtC.made w 2 2 0 0
  have hB0 : Below w.heap.size w (w.alloc (.cells #[.int .i64 2, .int .i64 2, .int .i64 0, .int .i64 0] 27)) := below_new (Below.refl _ _) _
  have hs0 : w.heap.size + 1 = (w.alloc (.cells #[.int .i64 2, .int .i64 2, .int .i64 0, .int .i64 0] 27)).heap.size := by simp
  have HA := Lib.hid hA
  have HB0 := Lib.hid hB0
  have Hs0 := Lib.hid hs0
  have hp := fun W => pack_right 1 0 1 0 0 W (by decide)
  simp only [show (1 : Int) + 4 * 0 + 8 * 1 + 65536 * 0 + 1099511627776 * 0 = 9 from rfl] at hp
  have HP := Lib.hid hp
  clear hA hB0 hs0 hp
  go_enter Try.func7, Try.ntmps7
  go_wp2_with fail
  generalize hW : w.alloc (.cells #[.int .i64 2, .int .i64 2, .int .i64 0, .int .i64 0] 27) = W at HA HB0 Hs0 ⊢
  clear hW
  refine (ccells_any 2 2 0 0 4 _ lay22).mono ?_
  rintro r w1 ⟨rfl, hb1⟩
  go_wp2_with fail
  refine (new_nat W.heap.size 12 12 _ hb1.size (by decide) (.inl rfl)).mono ?_
  rintro r w2 ⟨p, c, rfl, hM2, hb2, hp, hc⟩
  have HH0 := Lib.hid (Hold.cells hb1 hM2 hb2 hp hc)
  clear hM2 hb2 hp hc hb1
  obtain ⟨q0, q1, q2, q3⟩ := HA.out.later HH0.out.below (by have := Hs0.out; omega)
  go_wp2_with fail
  refine (genew_any W.heap.size _ 4 2 2 0 0 0 0 0 lay22 HH0.out.size).mono ?_
  rintro r w3 ⟨b, bs, gs, rfl, hS3, hb3, hbb⟩
  have HH1 : Hid (GeH W w3 p c gC0 [] b gG0 []) := GeH.begun HH0.out hb3 hS3 hbb
  clear hS3 hb3 hbb HH0 q0 q1 q2 q3
  have HN0 := Lib.hid gA0
  go_wp2_with fail
  go_loopw [4] (fun i wr => ∃ (n : Nat) (k : Ge) (C : List Int) (L : List Ev), n ≤ 13 ∧ i = .int .i64 n ∧ Hid (GeH W wr p c C L b k []) ∧ Hid (GA k C gC0 4 8 n) ∧ Hid (L.length ≤ n)) (fun i _ => 100 - (intOf i).toNat)
  case atStart => exact ⟨0, _, _, _, by omega, rfl, HH1, HN0, Nat.le_refl _⟩
  case round =>
    clear HH1 HN0
    obtain ⟨n, k, C, L, hn, rfl, HH, HG, HL⟩ := hrel
    rcases HG.out.cases with ⟨hp, hlt⟩ | ⟨hp, hph, hE, hC⟩ | ⟨j, hp, hph, hj, hE, _⟩
    · have hn13 : n < 13 := by omega
      have HPH := Lib.hid (HH.out.phase 0 hp)
      have HF := Lib.hid HH.out.fit
      have HP0 := Lib.hid hp
      clear hp hlt
      go_wp2_with fail
      refine HPH.out.mono ?_
      rintro r wr2 ⟨rfl, hb⟩
      replace HH := Lib.hid (HH.out.later hb)
      clear hb HPH
      have hnn : (n : Int) < 50 := by omega
      go_wp2_with fail
      refine (HH.out.call HG.out.ok (by have := HL.out; omega)).mono ?_
      rintro r wr3 ⟨z, hz, rfl, hH⟩
      have HG2 := Lib.hid (HG.out.step HP0.out hz HF.out)
      have HH2 := Lib.hid hH
      have HL2 := Lib.hid (Ge.ev_le k 4 8 C)
      clear hH hz HG HH
      go_wp2_with fail
      go_roundw
      case rel => exact ⟨n + 1, _, _, _, by omega, by go_num, HH2, HG2, by have := HL.out; have := HL2.out; show _ ≤ _; rw [List.length_append]; omega⟩
      case measure => first | omega | (simp [intOf]; done) | (simp [intOf]; omega)
    · obtain rfl : n = 8 := hp
      subst hC
      have HPH := Lib.hid (HH.out.phase 2 hph)
      have HL8 := HL
      clear hE HL HG hn
      go_wp2_with fail
      refine HPH.out.mono ?_
      rintro r wr2 ⟨rfl, hb⟩
      replace HH := Lib.hid (HH.out.later hb)
      clear hb HPH
      have HL : Hid (L.length ≤ 8) := HL8.out
      obtain ⟨v, bs1, gs1, bt1, hHc⟩ := HH.out
      have HC := Lib.hid hHc
      have HPN := Lib.hid hph
      clear hHc HH HL8 hph
      obtain ⟨q0, q1, q2, q3⟩ := HA.out.later HC.out.below (by have := Hs0.out; omega)
      go_wp2_with fail
      refine (gword_at 2 2 0 0 3 3 _ rfl).mono ?_
      rintro r w4 ⟨rfl, hb4⟩
      replace HC := Lib.hid (HC.out.later hb4)
      clear hb4 q0 q1 q2 q3
      go_wp2_with fail
      refine (HP.out _).mono ?_
      rintro r w4 ⟨rfl, hb4⟩
      replace HC := Lib.hid (HC.out.later hb4)
      clear hb4
      go_wp2_with fail
      refine (store_in W.heap.size _ p c _ _ _ (-1) 3 0 9 (Hold.has HC.out 0 _ rfl) rfl HC.out.size (by have := HL.out; omega) (by decide) (by decide)).mono ?_
      rintro r w5 ⟨rfl, v5, hT5⟩
      have HC1 := Lib.hid (HC.out.mem 0 rfl hT5)
      clear hT5 HC
      obtain ⟨q0, q1, q2, q3⟩ := HA.out.later HC1.out.below (by have := Hs0.out; omega)
      go_wp2_with fail
      refine (gvalue_at 2 2 0 0 4 3 7 _ lay22 (by decide) (by decide) rfl).mono ?_
      rintro r w6 ⟨rfl, hb6⟩
      replace HC1 := Lib.hid (HC1.out.later hb6)
      clear hb6 q0 q1 q2 q3
      go_wp2_with fail
      refine (store_in W.heap.size _ p c _ _ _ (-1) 7 0 5 (Hold.has HC1.out 0 _ rfl) rfl HC1.out.size (by have := HL.out; rw [List.length_append]; show L.length + 1 < 1000000000; omega) (by decide) (by decide)).mono ?_
      rintro r w7 ⟨rfl, v7, hT7⟩
      have hH2 := HC1.out.mem 0 rfl hT7
      obtain ⟨L2, hL2, hL2l⟩ : ∃ L2 : List Ev, L ++ [⟨-1, 1, ((3 : Nat) : Int), 0, 9, true⟩] ++ [⟨-1, 1, ((7 : Nat) : Int), 0, 5, true⟩] = L2 ∧ L2.length ≤ 10 := ⟨_, rfl, by have := HL.out; rw [List.length_append, List.length_append]; show L.length + 1 + 1 ≤ 10; omega⟩
      have HC2 : Hid (Hold W w7 (tMem W.heap.size p c v7 gC1 L2 :: [tGe W.heap.size b bs1 gs1 bt1 k])) := by rw [← hL2]; exact hH2
      have HL2 := Lib.hid hL2l
      clear hT7 hH2 hL2 hL2l HC1 HL
      obtain ⟨q0, q1, q2, q3⟩ := HA.out.later HC2.out.below (by have := Hs0.out; omega)
      go_wp2_with fail
      refine (genew_any W.heap.size _ 4 2 2 0 0 0 0 1 lay22 HC2.out.size).mono ?_
      rintro r w8 ⟨b2, bs2, gs2, rfl, hS8, hb8, hbb8⟩
      have HH2 : Hid (GeH W w8 p c gC1 L2 b2 gG1 [tGe W.heap.size b bs1 gs1 bt1 k]) := GeH.begun2 HC2.out hb8 hS8 hbb8
      clear hS8 hb8 hbb8 HC2 q0 q1 q2 q3
      have HN2 := Lib.hid gA1
      go_wp2_with fail
      go_loopw [6] (fun i wr => ∃ (n : Nat) (k' : Ge) (C : List Int) (L : List Ev), n ≤ 13 ∧ i = .int .i64 n ∧ Hid (GeH W wr p c C L b2 k' [tGe W.heap.size b bs1 gs1 bt1 k]) ∧ Hid (GA k' C gC1 4 8 n) ∧ Hid (L.length ≤ 10 + n)) (fun i _ => 100 - (intOf i).toNat)
      case atStart => exact ⟨0, _, _, _, by omega, rfl, HH2, HN2, HL2⟩
      case round =>
        clear HH2 HN2 HL2
        obtain ⟨n, k', C, L, hn, rfl, HH, HG, HL⟩ := hrel
        rcases HG.out.cases with ⟨hp, hlt⟩ | ⟨hp, hph, hE, hC⟩ | ⟨j, hp, hph, hj, hE, hval, hta, hC⟩
        · have hn13 : n < 13 := by omega
          have HPH := Lib.hid (HH.out.phase 0 hp)
          have HF := Lib.hid HH.out.fit
          have HP0 := Lib.hid hp
          clear hp hlt
          go_wp2_with fail
          refine HPH.out.mono ?_
          rintro r wr2 ⟨rfl, hb⟩
          replace HH := Lib.hid (HH.out.later hb)
          clear hb HPH
          have hnn : (n : Int) < 50 := by omega
          go_wp2_with fail
          refine (HH.out.call HG.out.ok (by have := HL.out; omega)).mono ?_
          rintro r wr3 ⟨z, hz, rfl, hH⟩
          have HG2 := Lib.hid (HG.out.step HP0.out hz HF.out)
          have HH2 := Lib.hid hH
          have HL2 := Lib.hid (Ge.ev_le k' 4 8 C)
          clear hH hz HG HH
          go_wp2_with fail
          go_roundw
          case rel => exact ⟨n + 1, _, _, _, by omega, by go_num, HH2, HG2, by have := HL.out; have := HL2.out; show _ ≤ _; rw [List.length_append]; omega⟩
          case measure => first | omega | (simp [intOf]; done) | (simp [intOf]; omega)
        · have := gE1 hE
          omega
        · obtain rfl : n = 13 := hp
          obtain rfl : j = 3 := by have := gE1 hE; omega
          have HPH := Lib.hid (HH.out.phase 1 hph)
          have HV := Lib.hid hval
          have HTA := Lib.hid hta
          have HPP := Lib.hid hph
          clear hph hE HL HG hn hval hta hC
          go_wp2_with fail
          refine HPH.out.mono ?_
          rintro r wr2 ⟨rfl, hb⟩
          replace HH := Lib.hid (HH.out.later hb)
          clear hb HPH
          go_wp2_with fail
          refine (HH.out.phase2 2 HPN.out).mono ?_
          rintro r wr2 ⟨rfl, hb⟩
          replace HH := Lib.hid (HH.out.later hb)
          clear hb
          go_wp2_with fail
          refine (HH.out.phase 1 HPP.out).mono ?_
          rintro r wr2 ⟨rfl, hb⟩
          replace HH := Lib.hid (HH.out.later hb)
          clear hb
          go_wp2_with fail
          refine (HH.out.value 5 HV.out (fun _ => HTA.out)).mono ?_
          rintro r wr2 ⟨rfl, hb⟩
          replace HH := Lib.hid (HH.out.later hb)
          clear hb
          obtain ⟨q0, q1, q2, q3⟩ := HA.out.later HH.out.below (by have := Hs0.out; omega)
          go_wp2_with fail
          refine (gealone_any _ 4 2 2 0 0 lay22 (by decide)).mono ?_
          rintro r wr2 ⟨rfl, hb⟩
          replace HH := Lib.hid (HH.out.later hb)
          clear hb q0 q1 q2 q3
          go_wp2_with fail
          go_ret
          exact ⟨rfl, below_step' HB0.out HH.out.below (by have := Hs0.out; omega)⟩
    · have := gE0 hE
      omega

end Go.Proofs.Yticphioeipbnmaa
