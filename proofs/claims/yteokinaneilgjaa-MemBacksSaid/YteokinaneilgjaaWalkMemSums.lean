/-
  MemSums and MemRaces answer true for every list of numbers, and leave all memory that was there as it was. No condition.
-/
import Derived.Test.YteokinaneilgjaaWalkMemSizes
import Derived.Test.YteokinaneilgjaaFlat
namespace Go.Proofs.Yteokinaneilgjaa
open Go.RowKit
set_option linter.unusedVariables false

theorem rows_u64 {w : World} {a0 : Option Addr} {len cap : Nat} (h : IsRows w [.inl .u64] a0 len cap) (hl : 0 < len) :
    ∃ b off, ∃ X : Nat → Int, a0 = some ⟨b, off, none⟩ ∧ len ≤ cap ∧ b < w.heap.size ∧ ∀ i, i < len → w.cell? ⟨b, off + i, none⟩ = some (u64 (X i)) ∧ 0 ≤ X i ∧ X i ≤ 18446744073709551615 := by
  obtain ⟨h1, h2, h3, h4, h5⟩ := h
  obtain ⟨b, off, rfl⟩ := h4 hl
  have hx : ∀ i, ∃ x : Int, i < len → w.cell? ⟨b, off + i, none⟩ = some (u64 x) ∧ 0 ≤ x ∧ x ≤ 18446744073709551615 := by
    intro i
    by_cases hi : i < len
    · obtain ⟨cs, hf, hc⟩ := h5 b off rfl i hi
      obtain ⟨c0, cs', rfl, hc0, hf'⟩ := fit_cons hf
      obtain ⟨x, rfl, hx⟩ := hc0
      have := hc 0 _ rfl
      simp only [List.length_cons, List.length_nil, Nat.zero_add, Nat.mul_one, Nat.add_zero] at this
      exact ⟨x, fun _ => ⟨this, bounds_u64 hx⟩⟩
    · exact ⟨0, fun h => absurd h hi⟩
  obtain ⟨X, hX⟩ := Classical.axiomOfChoice hx
  refine ⟨b, off, X, rfl, h1, ?_, fun i hi => hX i hi⟩
  exact World.block_lt_of_cell? w ⟨b, off + 0, none⟩ (hX 0 hl).1

set_option maxHeartbeats 2000000 in
theorem walk_MemSums (a0 : Option Addr) (len0 cap0 : Nat) (w : World) (w0 : IsRows w [.inl .u64] a0 len0 cap0) :
    Calls Try.prog 6 #[.slice a0 len0 cap0] w fun e w' => e = .returned (.bool true) ∧ Below w.heap.size w w' := by
  by_cases hbig : 100 < len0
  · have hbig' : (100 : Int) < (len0 : Int) := by omega
    clear w0
    go_enter Try.func6, Try.ntmps6
    go_wp2_with fail
    refine (head3_any _).mono ?_
    rintro e w1 ⟨rfl, hb1⟩
    go_wp2_with fail
    go_ret
    exact ⟨rfl, hb1⟩
  · have p0 : decide ((100 : Int) < (len0 : Int)) = false := decide_eq_false (by omega)
    have W0 := Lib.hid w0
    clear w0
    go_enter Try.func6, Try.ntmps6
    go_wp2_with fail
    refine (head3_any _).mono ?_
    rintro e w1 ⟨rfl, hb1⟩
    go_wp2_with fail
    refine (new_nat w.heap.size 1 1 _ hb1.size (by decide) (.inl rfl)).mono ?_
    rintro r w2 ⟨p, c, rfl, hM2, hb2, hp, hc⟩
    have hO := Own.made hb1 hM2 hb2
    clear hM2 hb2 hb1 hp hc
    go_wp2_with fail
    go_loopw [4, 15] (fun s i wr => ∃ (n : Nat) (x : Int) (v : Value) (L : List Ev), n ≤ len0 ∧ i = .int .i64 n ∧ s = .int .u64 x ∧ Own w wr p c v [x] L ∧ Hid (L.length = n)) (fun _ i _ => len0 - (intOf i).toNat)
    case atStart => exact ⟨0, 0, _, _, by omega, rfl, rfl, hO, rfl⟩
    case round =>
      clear hO
      obtain ⟨n, x, v, L, hn, rfl, rfl, hO, hL⟩ := hrel
      rcases Nat.lt_or_ge n len0 with hlt | hge
      · obtain ⟨b, off, X, rfl, hcap, hb, hX⟩ := rows_u64 W0.out (by omega)
        obtain ⟨hx, x0, x1⟩ := hX n hlt
        have hx' := (hO.below.cell (p := ⟨b, off + n, none⟩) hb).trans hx
        clear hX hx
        go_wp2_with fail
        refine (add_in _ _ p c _ _ _ _ 0 x (X n) hO.mem rfl hO.size (by have := hL.out; omega)).mono ?_
        rintro r w4 ⟨rfl, v4, hT⟩
        replace hO := hO.step hT
        clear hT hx'
        go_wp2_with fail
        go_roundw
        case rel => exact ⟨n + 1, add64 x (X n), v4, _, by omega, by go_num, rfl, hO, by show _ = _; rw [List.length_append, hL.out]; rfl⟩
        case measure => simp [intOf]; omega
      · obtain rfl : n = len0 := by omega
        have e1 := hL.out
        go_wp2_with fail
        refine (peek_in _ _ p c _ _ _ 0 x hO.mem rfl).mono ?_
        rintro r w' ⟨rfl, rfl⟩
        go_wp2_with fail
        refine (count_any _ _ p c _ _ _ hO.mem).mono ?_
        rintro r w' ⟨rfl, rfl⟩
        rw [e1]
        have hbf := hO.below
        clear hO e1
        go_wp2
        go_ret
        exact ⟨rfl, hbf⟩

/-- Who has had the number so far: nobody, or one. -/
def Raced (old x : Int) (first : Bool) (won : Int) : Prop := (first = true ∧ won = 0 ∧ x = old) ∨ (first = false ∧ won = 1 ∧ x ≠ old)

set_option maxHeartbeats 4000000 in
theorem walk_MemRaces (a0 : Option Addr) (len0 cap0 : Nat) (old : Int) (w : World) (w0 : IsRows w [.inl .u64] a0 len0 cap0) (w1 : (Lit.int .u64 old).wf = true) :
    Calls Try.prog 8 #[.slice a0 len0 cap0, .int .u64 old] w fun e w' => e = .returned (.bool true) ∧ Below w.heap.size w w' := by
  obtain ⟨o0, o1⟩ := bounds_u64 w1
  clear w1
  by_cases hbig : 60 < len0
  · have hbig' : (60 : Int) < (len0 : Int) := by omega
    clear w0
    go_enter Try.func8, Try.ntmps8
    go_wp2_with fail
    refine (head3_any _).mono ?_
    rintro e w1 ⟨rfl, hb1⟩
    go_wp2_with fail
    go_ret
    exact ⟨rfl, hb1⟩
  · have p0 : decide ((60 : Int) < (len0 : Int)) = false := decide_eq_false (by omega)
    have W0 := Lib.hid w0
    clear w0
    go_enter Try.func8, Try.ntmps8
    go_wp2_with fail
    refine (head3_any _).mono ?_
    rintro e w1 ⟨rfl, hb1⟩
    go_wp2_with fail
    refine (new_nat w.heap.size 1 1 _ hb1.size (by decide) (.inl rfl)).mono ?_
    rintro r w2 ⟨p, c, rfl, hM2, hb2, hp, hc⟩
    have hO := Own.made hb1 hM2 hb2
    clear hM2 hb2 hb1 hp hc
    go_wp2_with fail
    refine (store_in _ _ p c _ _ _ (-1) 0 0 old hO.mem rfl hO.size (by decide) o0 o1).mono ?_
    rintro r w3 ⟨rfl, v3, hT⟩
    replace hO := hO.step hT
    clear hT
    go_wp2_with fail
    go_loopw [6, 7, 22] (fun won first i wr => ∃ (n : Nat) (x k : Int) (f : Bool) (v : Value) (L : List Ev), n ≤ len0 ∧ i = .int .i64 n ∧ won = .int .i64 k ∧ first = .bool f ∧ Own w wr p c v [x] L ∧ Hid (L.length ≤ n + 1) ∧ Hid (Raced old x f k)) (fun _ _ i _ => len0 - (intOf i).toNat)
    case atStart => exact ⟨0, old, 0, true, _, _, by omega, rfl, rfl, rfl, hO, Nat.le_refl _, .inl ⟨rfl, rfl, rfl⟩⟩
    case round =>
      clear hO
      obtain ⟨n, x, k, f, v, L, hn, rfl, rfl, rfl, hO, hL, hR⟩ := hrel
      rcases Nat.lt_or_ge n len0 with hlt | hge
      · obtain ⟨b, off, X, rfl, hcap, hb, hX⟩ := rows_u64 W0.out (by omega)
        obtain ⟨hx, x0, x1⟩ := hX n hlt
        have hx' := (hO.below.cell (p := ⟨b, off + n, none⟩) hb).trans hx
        clear hX hx
        by_cases heq : X n = old
        · have hd : (X n == old) = true := by simpa using heq
          have HO := Lib.hid hO
          clear heq hO
          go_wp2_with fail
          go_roundw
          case rel => exact ⟨n + 1, x, k, f, v, L, by omega, by go_num, rfl, rfl, HO.out, Nat.le_succ_of_le hL.out, hR⟩
          case measure => simp [intOf]; omega
        · have hd : (X n == old) = false := by simpa using heq
          have Hne := Lib.hid heq
          clear heq
          rcases hR.out with ⟨rfl, rfl, rfl⟩ | ⟨rfl, rfl, hxo⟩
          · clear hR
            go_wp2_with fail
            refine (swap_yes _ _ p c _ _ _ _ 0 _ (X n) hO.mem rfl hO.size (by have := hL.out; omega) x0 x1).mono ?_
            rintro r w4 ⟨rfl, v4, hT⟩
            replace hO := hO.step hT
            clear hT hx'
            go_wp2_with fail
            go_roundw
            case rel => exact ⟨n + 1, X n, 1, false, v4, _, by omega, by go_num, rfl, rfl, hO, by show _ ≤ _; rw [List.length_append]; exact Nat.succ_le_succ hL.out, .inr ⟨rfl, rfl, Hne.out⟩⟩
            case measure => simp [intOf]; omega
          · have Hxo := Lib.hid hxo
            clear hR hxo
            go_wp2_with fail
            refine (swap_no _ _ p c _ _ _ _ 0 x old (X n) hO.mem rfl hO.size (by have := hL.out; omega) Hxo.out).mono ?_
            rintro r w4 ⟨rfl, v4, hT⟩
            replace hO := hO.step hT
            clear hT hx'
            go_wp2_with fail
            go_roundw
            case rel => exact ⟨n + 1, x, 1, false, v4, _, by omega, by go_num, rfl, rfl, hO, by show _ ≤ _; rw [List.length_append]; exact Nat.succ_le_succ hL.out, .inr ⟨rfl, rfl, Hxo.out⟩⟩
            case measure => simp [intOf]; omega
      · obtain rfl : n = len0 := by omega
        rcases hR.out with ⟨rfl, rfl, rfl⟩ | ⟨rfl, rfl, hxo⟩
        · clear hR
          go_wp2_with fail
          refine (peek_in _ _ p c _ _ _ 0 _ hO.mem rfl).mono ?_
          rintro r w' ⟨rfl, rfl⟩
          have hbf := hO.below
          clear hO
          go_wp2
          go_ret
          exact ⟨rfl, hbf⟩
        · have hbf := hO.below
          clear hO hR hxo
          go_wp2
          go_ret
          exact ⟨rfl, hbf⟩

end Go.Proofs.Yteokinaneilgjaa
