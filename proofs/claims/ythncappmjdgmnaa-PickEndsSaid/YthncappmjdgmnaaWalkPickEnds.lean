/-
  PickEnds answers true for every list of words, and leaves all memory that was there as it was. No condition.
-/
import Derived.Test.YthncappmjdgmnaaPickRow
namespace Go.Proofs.Ythncappmjdgmnaa
open Go.RowKit
set_option linter.unusedVariables false
attribute [local go_sem ↓] fld0 fld1 fld3

theorem end_none {ws : List Int} {e z : Int} (h : IsEnd ws e z) (hn : ∀ i, i < ws.length → ¬ live ws i) : z = -1 := by
  rcases h with ⟨h, _⟩ | ⟨i, _, h1, h2, _⟩
  · exact h
  · exact absurd h2 (hn i h1)
theorem end_some {ws : List Int} {e z : Int} (h : IsEnd ws e z) {j : Nat} (hj : j < ws.length) (hl : live ws j) : ∃ i : Nat, z = (i : Int) ∧ i < ws.length ∧ live ws i ∧ ∀ j, j < ws.length → live ws j → if e = 0 then wkey ws i ≤ wkey ws j else wkey ws j ≤ wkey ws i := by
  rcases h with ⟨_, h⟩ | h
  · exact absurd hl (h j hj)
  · exact h

set_option maxRecDepth 100000 in
set_option maxHeartbeats 8000000 in
theorem walk_PickEnds (a0 : Option Addr) (len0 cap0 : Nat) (w : World) (w0 : IsRows w [.inl .u64] a0 len0 cap0) :
    Calls Try.prog 4 #[.slice a0 len0 cap0] w fun e w' => e = .returned (.bool true) ∧ Below w.heap.size w w' := by
  obtain ⟨ws, rfl, hW⟩ := rows_words w0
  clear w0
  have HW := Lib.hid hW
  clear hW
  by_cases hbig : 100 < ws.length
  · have hbig' : (100 : Int) < (ws.length : Int) := by omega
    go_enter Try.func4, Try.ntmps4
    go_wp2_with fail
    refine (head8_any _).mono ?_
    rintro e w1 ⟨rfl, hb1⟩
    go_wp2_with fail
    go_ret
    exact ⟨rfl, hb1⟩
  have p0 : decide ((100 : Int) < (ws.length : Int)) = false := decide_eq_false (by omega)
  obtain ⟨len, hlen⟩ : ∃ len : Nat, ws.length = len := ⟨_, rfl⟩
  have Hlen := Lib.hid hlen
  rw [hlen] at hbig p0
  have hcall := fun W e he => at_any W a0 cap0 ws e he
  rw [hlen] at hcall ⊢
  have HCALL := Lib.hid hcall
  clear hlen hcall
  go_enter Try.func4, Try.ntmps4
  go_wp2_with fail
  refine (head8_any _).mono ?_
  rintro e w1 ⟨rfl, hb1⟩
  have HB1 := Lib.hid hb1
  clear hb1
  go_wp2_with fail
  refine (HCALL.out _ 0 (.inl rfl) (HW.out.later HB1.out) (by omega)).mono ?_
  rintro r w2 ⟨l, rfl, hl, hb2⟩
  have HB2 := Lib.hid (below_step HB1.out hb2)
  clear hb2 HB1
  go_wp2_with fail
  refine (HCALL.out _ 1 (.inr rfl) (HW.out.later HB2.out) (by omega)).mono ?_
  rintro r w3 ⟨q, rfl, hr, hb3⟩
  have HB3 := Lib.hid (below_step HB2.out hb3)
  clear hb3 HB2 HCALL
  have HWo := Lib.hid (HW.out.later HB3.out)
  by_cases hex : ∃ j, j < ws.length ∧ live ws j
  · obtain ⟨j0, hj0, hlv0⟩ := hex
    obtain ⟨lN, hlN, l1, l2, l3⟩ := end_some hl hj0 hlv0
    obtain ⟨rN, hrN, r1, r2, r3⟩ := end_some hr hj0 hlv0
    obtain ⟨b, off, rfl, hc⟩ := HWo.out.has (by omega)
    rw [Hlen.out] at l1 r1
    have HL := Lib.hid hlN
    have HR := Lib.hid hrN
    have HL3 : Hid (∀ j, j < ws.length → live ws j → wkey ws lN ≤ wkey ws j) := fun j a b => by have := l3 j a b; rwa [if_pos rfl] at this
    have HR3 : Hid (∀ j, j < ws.length → live ws j → wkey ws j ≤ wkey ws rN) := fun j a b => by have := r3 j a b; rwa [if_neg (by decide)] at this
    have HC := Lib.hid hc
    have HL2 := Lib.hid l2
    have HR2 := Lib.hid r2
    have ln : ¬ l < 0 := by omega
    have rn : ¬ q < 0 := by omega
    clear hl hr hj0 hlv0 hlN hrN l3 r3 l2 r2 hc
    obtain ⟨wo, rfl⟩ : ∃ wo : World, wo = w3 := ⟨_, rfl⟩
    go_wp2_with fail
    go_loopw [5, 19] (fun vs i wr => ∃ (e : Nat) (s : Bool), e ≤ len ∧ i = .int .i64 e ∧ vs = .bool s ∧ Hid (s = false → ∀ j, j < e → ¬ live ws j) ∧ Hid (Below wo.heap.size wo wr)) (fun _ i _ => len - (intOf i).toNat)
    case atStart => exact ⟨0, false, by omega, rfl, rfl, fun _ j hj => by omega, Below.refl _ _⟩
    case round =>
      obtain ⟨e, s, he, rfl, rfl, HS, HB⟩ := hrel
      rcases Nat.lt_or_ge e len with heN | heN
      · have heN' : (e : Int) < (len : Int) := by omega
        have hx := (below_rule HB.out _ (by rw [HC.out e (by have := Hlen.out; omega)]; rfl)).trans (HC.out e (by have := Hlen.out; omega))
        have hf := HW.out.fit e
        obtain ⟨x, hxe⟩ : ∃ x : Int, ws.getD e 0 = x := ⟨_, rfl⟩
        rw [hxe] at hx hf
        obtain ⟨x0, x1⟩ := hf
        have HX := Lib.hid hxe
        clear hxe
        go_wp2_with fail
        refine (unpack_any x _ x0 x1).mono ?_
        rintro r w5 ⟨rfl, hb5⟩
        have HB5 := Lib.hid (below_step HB.out hb5)
        clear hb5 HB hx
        by_cases h1 : x % 4 = 1
        · have h1' : (x % 4 != 1) = false := by simp [h1]
          have HLV : Hid (live ws e) := by show ws.getD e 0 % 4 = 1; rw [HX.out]; exact h1
          clear h1
          have cs := fun (W : World) (hb : Below wo.heap.size wo W) (i : Nat) (hi : i < len) => (below_rule hb _ (by rw [HC.out i (by have := Hlen.out; omega)]; rfl)).trans (HC.out i (by have := Hlen.out; omega))
          have HA1 : Hid (∀ W, Below wo.heap.size wo W → Calls Try.prog 18 #[.slice (some ⟨b, off, none⟩) len cap0, i64 e, i64 l] W fun r w' => r = .returned (.bool false) ∧ Below W.heap.size W w') := fun W hb => by
            have := lawahead_any W b off len cap0 e lN (ws.getD e 0) (ws.getD lN 0) heN l1 (by omega) (cs W hb e heN) (cs W hb lN l1) (HW.out.fit _).1 (HW.out.fit _).2 (HW.out.fit _).1 (HW.out.fit _).2
            rw [← HL.out, show decide (xkey (ws.getD e 0) e < xkey (ws.getD lN 0) lN) = false from decide_eq_false (by have h := HL3.out e (by rw [Hlen.out]; exact heN) HLV.out; exact Int.not_lt.2 h)] at this
            exact this
          have HA2 : Hid (∀ W, Below wo.heap.size wo W → Calls Try.prog 18 #[.slice (some ⟨b, off, none⟩) len cap0, i64 q, i64 e] W fun r w' => r = .returned (.bool false) ∧ Below W.heap.size W w') := fun W hb => by
            have := lawahead_any W b off len cap0 rN e (ws.getD rN 0) (ws.getD e 0) r1 heN (by omega) (cs W hb rN r1) (cs W hb e heN) (HW.out.fit _).1 (HW.out.fit _).2 (HW.out.fit _).1 (HW.out.fit _).2
            rw [← HR.out, show decide (xkey (ws.getD rN 0) rN < xkey (ws.getD e 0) e) = false from decide_eq_false (by have h := HR3.out e (by rw [Hlen.out]; exact heN) HLV.out; exact Int.not_lt.2 h)] at this
            exact this
          clear cs
          by_cases hle : l = (e : Int)
          · have hle' : (l != (e : Int)) = false := by simpa using hle
            clear hle
            by_cases hre : q = (e : Int)
            · have hre' : (q != (e : Int)) = false := by simpa using hre
              clear hre
              go_wp2_with fail
              go_roundw
              case rel => exact ⟨e + 1, true, by omega, by go_num, rfl, (fun h => by cases h), HB5⟩
              case measure => first | omega | (simp [intOf]; done) | (simp [intOf]; omega)
            · have hre' : (q != (e : Int)) = true := by simpa using hre
              clear hre
              go_wp2_with fail
              refine (HA2.out _ HB5.out).mono ?_
              rintro r w6 ⟨rfl, hb6⟩
              have HB6 := Lib.hid (below_step HB5.out hb6)
              clear hb6
              go_wp2_with fail
              go_roundw
              case rel => exact ⟨e + 1, true, by omega, by go_num, rfl, (fun h => by cases h), HB6⟩
              case measure => first | omega | (simp [intOf]; done) | (simp [intOf]; omega)
          · have hle' : (l != (e : Int)) = true := by simpa using hle
            clear hle
            by_cases hre : q = (e : Int)
            · have hre' : (q != (e : Int)) = false := by simpa using hre
              clear hre
              go_wp2_with fail
              refine (HA1.out _ HB5.out).mono ?_
              rintro r w6 ⟨rfl, hb6⟩
              have HB6 := Lib.hid (below_step HB5.out hb6)
              clear hb6
              go_wp2_with fail
              go_roundw
              case rel => exact ⟨e + 1, true, by omega, by go_num, rfl, (fun h => by cases h), HB6⟩
              case measure => first | omega | (simp [intOf]; done) | (simp [intOf]; omega)
            · have hre' : (q != (e : Int)) = true := by simpa using hre
              clear hre
              go_wp2_with fail
              refine (HA1.out _ HB5.out).mono ?_
              rintro r w6 ⟨rfl, hb6⟩
              have HB6 := Lib.hid (below_step HB5.out hb6)
              clear hb6
              go_wp2_with fail
              refine (HA2.out _ HB6.out).mono ?_
              rintro r w7 ⟨rfl, hb7⟩
              have HB7 := Lib.hid (below_step HB6.out hb7)
              clear hb7
              go_wp2_with fail
              go_roundw
              case rel => exact ⟨e + 1, true, by omega, by go_num, rfl, (fun h => by cases h), HB7⟩
              case measure => first | omega | (simp [intOf]; done) | (simp [intOf]; omega)
        · have h1' : (x % 4 != 1) = true := by simp [h1]
          have HLV : Hid (¬ live ws e) := by show ¬ (ws.getD e 0 % 4 = 1); rw [HX.out]; exact h1
          clear h1
          go_wp2_with fail
          go_roundw
          case rel => exact ⟨e + 1, s, by omega, by go_num, rfl, (fun h j hj => by
            rcases Nat.lt_or_ge j e with h3 | h3
            · exact HS.out h j h3
            · obtain rfl : j = e := by omega
              exact HLV.out), HB5⟩
          case measure => first | omega | (simp [intOf]; done) | (simp [intOf]; omega)
      · have heN' : ¬ (e : Int) < (len : Int) := by omega
        cases s with
        | false =>
          exact absurd HL2.out (HS.out rfl lN (by omega))
        | true =>
          rw [HL.out, HR.out]
          have z1 := (below_rule HB.out _ (by rw [HC.out lN (by have := Hlen.out; omega)]; rfl)).trans (HC.out lN (by have := Hlen.out; omega))
          have z2 := (below_rule HB.out _ (by rw [HC.out rN (by have := Hlen.out; omega)]; rfl)).trans (HC.out rN (by have := Hlen.out; omega))
          have f1 := HW.out.fit lN
          have f2 := HW.out.fit rN
          obtain ⟨x, hxe⟩ : ∃ x : Int, ws.getD lN 0 = x := ⟨_, rfl⟩
          obtain ⟨y, hye⟩ : ∃ x : Int, ws.getD rN 0 = x := ⟨_, rfl⟩
          rw [hxe] at z1 f1
          rw [hye] at z2 f2
          have hx1 : x % 4 = 1 := by rw [← hxe]; exact HL2.out
          have hy1 : y % 4 = 1 := by rw [← hye]; exact HR2.out
          have hx1' : (x % 4 == 1) = true := by simp [hx1]
          have hy1' : (y % 4 == 1) = true := by simp [hy1]
          have l0' : (0 : Int) ≤ (lN : Int) := by omega
          have l1' : (lN : Int) < (len : Int) := by omega
          have r0' : (0 : Int) ≤ (rN : Int) := by omega
          have r1' : (rN : Int) < (len : Int) := by omega
          clear hxe hye hx1 hy1
          go_wp2_with fail
          refine (unpack_any x _ f1.1 f1.2).mono ?_
          rintro r w5 ⟨rfl, hb5⟩
          have HB5 := Lib.hid (below_step HB.out hb5)
          replace z2 := (below_rule hb5 _ (by rw [z2]; rfl)).trans z2
          clear hb5
          go_wp2_with fail
          refine (unpack_any y _ f2.1 f2.2).mono ?_
          rintro r w6 ⟨rfl, hb6⟩
          have HB6 := Lib.hid (below_step HB5.out hb6)
          clear hb6
          go_wp2_with fail
          go_ret
          exact ⟨rfl, below_step HB3.out HB6.out⟩
  · have hno : Hid (∀ i, i < ws.length → ¬ live ws i) := fun i hi hl => hex ⟨i, hi, hl⟩
    obtain rfl := end_none hl hno.out
    obtain rfl := end_none hr hno.out
    clear hl hr hex
    obtain ⟨wo, rfl⟩ : ∃ wo : World, wo = w3 := ⟨_, rfl⟩
    go_wp2_with fail
    go_loopw [5, 19] (fun vs i wr => ∃ (e : Nat), e ≤ len ∧ i = .int .i64 e ∧ vs = .bool false ∧ Hid (Below wo.heap.size wo wr)) (fun _ i _ => len - (intOf i).toNat)
    case atStart => exact ⟨0, by omega, rfl, rfl, Below.refl _ _⟩
    case round =>
      obtain ⟨e, he, rfl, rfl, HB⟩ := hrel
      rcases Nat.lt_or_ge e len with heN | heN
      · have heN' : (e : Int) < (len : Int) := by omega
        obtain ⟨b, off, rfl, hc⟩ := HWo.out.has (by have := Hlen.out; omega)
        have hx := (below_rule HB.out _ (by rw [hc e (by have := Hlen.out; omega)]; rfl)).trans (hc e (by have := Hlen.out; omega))
        have hf := HW.out.fit e
        obtain ⟨x, hxe⟩ : ∃ x : Int, ws.getD e 0 = x := ⟨_, rfl⟩
        have h1 : ¬ x % 4 = 1 := by rw [← hxe]; exact hno.out e (by have := Hlen.out; omega)
        rw [hxe] at hx hf
        obtain ⟨x0, x1⟩ := hf
        have h1' : (x % 4 != 1) = true := by simp [h1]
        clear hxe hc h1
        go_wp2_with fail
        refine (unpack_any x _ x0 x1).mono ?_
        rintro r w5 ⟨rfl, hb5⟩
        have HB5 := Lib.hid (below_step HB.out hb5)
        clear hb5 HB hx
        go_wp2_with fail
        go_roundw
        case rel => exact ⟨e + 1, by omega, by go_num, rfl, HB5⟩
        case measure => first | omega | (simp [intOf]; done) | (simp [intOf]; omega)
      · have heN' : ¬ (e : Int) < (len : Int) := by omega
        go_wp2_with fail
        go_ret
        exact ⟨rfl, below_step HB3.out HB.out⟩

end Go.Proofs.Ythncappmjdgmnaa
