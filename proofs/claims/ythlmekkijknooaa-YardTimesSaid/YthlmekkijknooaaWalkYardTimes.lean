/-
  YardTimes answers true for all lists, and leaves all memory that was there as it was. No condition.
-/
import Derived.Test.YthlmekkijknooaaYardHead
namespace Go.Proofs.Ythlmekkijknooaa
open Go.RowKit
set_option linter.unusedVariables false

def IsInts13 (w : World) (a0 : Option Addr) (len cap b off : Nat) (X : Nat → Int) : Prop :=
  ∀ i, i < len → a0 = some ⟨b, off, none⟩ ∧ len ≤ cap ∧ b < w.heap.size ∧ w.cell? ⟨b, off + i, none⟩ = some (i64 (X i))
theorem rows_ints13 {w : World} {a0 : Option Addr} {len cap : Nat} (h : IsRows w [.inl .i64] a0 len cap) : ∃ b off, ∃ X : Nat → Int, IsInts13 w a0 len cap b off X := by
  obtain ⟨h1, h2, h3, h4, h5⟩ := h
  rcases Nat.eq_zero_or_pos len with h0 | hl
  · exact ⟨0, 0, fun _ => 0, fun i hi => by omega⟩
  obtain ⟨b, off, rfl⟩ := h4 hl
  have hx : ∀ i, ∃ x : Int, i < len → w.cell? ⟨b, off + i, none⟩ = some (i64 x) := by
    intro i
    by_cases hi : i < len
    · obtain ⟨cs, hf, hc⟩ := h5 b off rfl i hi
      obtain ⟨c0, l0, rfl, r0, f0⟩ := fit_cons hf
      obtain ⟨x0, rfl, _⟩ := r0
      have := hc 0 _ rfl
      simp only [List.length_cons, List.length_nil, Nat.zero_add, Nat.mul_one, Nat.add_zero] at this
      exact ⟨x0, fun _ => this⟩
    · exact ⟨0, fun h => absurd h hi⟩
  obtain ⟨X, hX⟩ := Classical.axiomOfChoice hx
  exact ⟨b, off, X, fun i hi => ⟨rfl, h1, World.block_lt_of_cell? w _ (hX i hi), hX i hi⟩⟩
theorem IsInts13.later {w w' : World} {a : Option Addr} {len cap tb off B : Nat} {X : Nat → Int} (h : IsInts13 w a len cap tb off X) (e : Below B w w') (hB : ∀ i, i < len → tb < B) : IsInts13 w' a len cap tb off X := fun i hi => by
  obtain ⟨h1, h2, h3, h4⟩ := h i hi
  have h5 := (e.cell (p := ⟨tb, off + i, none⟩) (hB i hi)).trans h4
  exact ⟨h1, h2, World.block_lt_of_cell? w' _ h5, h5⟩

/-- The one thread's yard while time goes by. -/
def tY (nw : Int) : Yd := ⟨[0, 0, 0, 0], [], nw, 0, [none], []⟩
/-- The time behind n more. -/
def tNext (nw n : Int) : Int := if n ≤ 0 then nw else if n > yMax - nw then yMax else nw + n
section
variable {W w w' : World} {l : List Thing} {Y : Yd} {J : Nat → Nat} {n yb tb p c : Nat} {nw : Int}
theorem HdY.pass (h : HdY W w l (hB yb tb p c) (tY nw) J n) (hn : n < 1000000) (k : Int) :
    Calls Try.prog 6 #[pt yb, i64 k] w fun r w' => r = .returned (.tuple #[]) ∧ ∃ l', HdY W w' l' (hB yb tb p c) (tY (tNext nw k)) J (n + 1) := by
  obtain ⟨v, vd, X, hA⟩ := h.h
  by_cases hk : k ≤ 0
  · have hin := ypass_rest hA k hk
    refine hin.mono ?_
    rintro r w' ⟨rfl, rfl⟩
    have e : tNext nw k = nw := if_pos hk
    rw [e]
    exact ⟨rfl, l, h.h, h.ok.next .rest hn h.h.fit, h.len⟩
  · have hin := ypass_any hA k (by omega) h.ok.now0 h.ok.now1
    refine hin.mono ?_
    rintro r w' ⟨rfl, l', hl', _⟩
    have e : tY (tNext nw k) = (tY nw).pass k := by
      unfold tNext
      rw [if_neg hk]
      rfl
    rw [e]
    exact ⟨rfl, l', ⟨_, _, _, hl'⟩, h.ok.next (.pass k (by omega)) hn h.h.fit, h.len⟩
theorem HdY.now (h : HdY W w l (hB yb tb p c) Y J n) (u : Int) (hu : Y.now = u) : Calls Try.prog 7 #[pt yb] w fun r w' => r = .returned (i64 u) ∧ Below w.heap.size w w' := by
  obtain ⟨v, vd, X, hA⟩ := h.h
  subst hu
  have h1 := ynow_any hA
  exact h1
theorem HdY.idle (h : HdY W w l (hB yb tb p c) Y J n) (hq : Y.ts[0]? = some none) : Calls Try.prog 8 #[pt yb, i64 0] w fun r w' => r = .returned (.bool false) ∧ w = w' := by
  obtain ⟨v, vd, X, hA⟩ := h.h
  exact ystep_none hA 0 hq
theorem step_tick {P : Pl} {k i : Nat} {T : Wk} {z : Int} : (Y.step P k T i z).now = Y.tick := rfl
theorem HdY.step (h : HdY W w l (hB yb tb p c) Y J n) (hn : n < 1000000) (ha : ∃ a, Y.ts[0]? = some (some a)) :
    Calls Try.prog 8 #[pt yb, i64 0] w fun r w' => r = .returned (.bool true) ∧ ∃ l' Y', HdY W w' l' (hB yb tb p c) Y' J (n + 1) ∧ Y'.now = Y.tick := by
  obtain ⟨a, ha⟩ := ha
  obtain ⟨v, vd, X, hA⟩ := h.h
  have hin := ystep_any hA h.ok hn ha
  refine hin.mono ?_
  rintro r w' ⟨rfl, z, hz, l', hl', _⟩
  have ho := h.ok.next (.step 0 a.1 a.2 z ha hz) hn h.h.fit
  have hlen : (Y.step (plOf (hB yb tb p c) 1 0) 0 a.1 a.2 z).C.length = 4 := by rw [step_len]; exact h.len
  have ht : (Y.step (plOf (hB yb tb p c) 1 0) 0 a.1 a.2 z).now = Y.tick := step_tick
  generalize Y.step (plOf (hB yb tb p c) 1 0) 0 a.1 a.2 z = Y' at hl' ho hlen ht
  exact ⟨rfl, l', Y', ⟨hl', ho, hlen⟩, ht⟩
end

set_option maxRecDepth 100000 in
set_option maxHeartbeats 8000000 in
theorem walk_YardTimes (a0 : Option Addr) (len0 cap0 : Nat) (w : World) (w0 : IsRows w [.inl .i64] a0 len0 cap0) :
    Calls Try.prog 3 #[.slice a0 len0 cap0] w fun e w' => e = .returned (.bool true) ∧ Below w.heap.size w w' := by
  rcases Nat.lt_or_ge 100 len0 with hbig | hs4
  · have hbig' : (100 : Int) < (len0 : Int) := by omega
    clear w0
    go_enter Try.func3, Try.ntmps3
    go_wp2_with fail
    refine (head13_any _).mono ?_
    rintro e w1 ⟨rfl, hb1⟩
    go_wp2_with fail
    go_ret
    exact ⟨rfl, hb1⟩
  have p4 : decide ((100 : Int) < (len0 : Int)) = false := decide_eq_false (by omega)
  obtain ⟨tb, off, X, hX⟩ := rows_ints13 w0
  have HX0 : Hid (IsInts13 w a0 len0 cap0 tb off X) := hX
  clear w0 hX
  go_enter Try.func3, Try.ntmps3
  go_wp2_with fail
  refine (head13_any _).mono ?_
  rintro e w1 ⟨rfl, hb1⟩
  have HX : Hid (IsInts13 w1 a0 len0 cap0 tb off X) := Lib.hid (HX0.out.later hb1 (fun i hi => (HX0.out i hi).2.2.1))
  have HB := Lib.hid hb1
  clear HX0 hb1
  go_wp2_with fail
  refine (ynew_yes (W := w1) 1 1 0 0 1 (Below.refl _ _) lay11 (by decide) (by decide) (by decide) (by decide)).mono ?_
  rintro r w2 ⟨yb, ytb, p, c, l0, rfl, hl, hY0, hb, hyb⟩
  have HH0 : Hid (HdY w1 w2 l0 (hB yb ytb p c) (tY 0) (fun _ => 0) 0) := ⟨hY0, YOk.start _ 1, rfl⟩
  clear hY0 hb hl hyb
  go_wp2_with fail
  go_loopw [5, 22] (fun nv ix wr => ∃ (i : Nat) (l : List Thing) (nw : Int), i ≤ len0 ∧ nv = .int .i64 nw ∧ ix = .int .i64 i ∧ Hid (HdY w1 wr l (hB yb ytb p c) (tY nw) (fun _ => 0) i)) (fun _ ix _ => len0 - (intOf ix).toNat)
  case atStart => exact ⟨0, _, 0, Nat.zero_le _, rfl, rfl, HH0⟩
  case round =>
    clear HH0
    obtain ⟨i, l, nw, hi0, rfl, rfl, HH⟩ := hrel
    have n0 : 0 ≤ nw := HH.out.ok.now0
    have n1 : nw ≤ 1099511627776 := HH.out.ok.now1
    have hm : yMax = 1099511627776 := rfl
    rcases Nat.lt_or_ge i len0 with hi | hi
    · have hi' : (i : Int) < (len0 : Int) := by omega
      obtain ⟨rfl, hcap, htb, hx⟩ := (HX.out.later HH.out.h.below (fun i hi => (HX.out i hi).2.2.1)) i hi
      generalize X i = k at hx
      rcases (by omega : k ≤ 0 ∨ (¬ k ≤ 0 ∧ k > yMax - nw) ∨ (¬ k ≤ 0 ∧ ¬ k > yMax - nw)) with hk | ⟨hk, hk2⟩ | ⟨hk, hk2⟩
      · clear hm
        go_wp2_with fail
        refine (HH.out.pass (by omega) k).mono ?_
        rintro r w3 ⟨rfl, l2, h2⟩
        rw [show tNext nw k = nw from if_pos hk] at h2
        have HH2 := Lib.hid h2
        clear h2 HH
        go_wp2_with fail
        refine (HH2.out.now (nw) rfl).mono ?_
        rintro r w4 ⟨rfl, hb⟩
        replace HH2 := Lib.hid (HH2.out.later hb)
        clear hb
        go_wp2_with fail
        refine (HH2.out.idle rfl).mono ?_
        rintro r w5 ⟨rfl, rfl⟩
        go_wp2_with fail
        go_roundw
        case rel => exact ⟨i + 1, l2, _, by omega, rfl, by go_num, HH2⟩
        case measure => first | omega | (simp [intOf]; done) | (simp [intOf]; omega)
      · rw [hm] at hk2
        clear hm
        go_wp2_with fail
        refine (HH.out.pass (by omega) k).mono ?_
        rintro r w3 ⟨rfl, l2, h2⟩
        rw [show tNext nw k = 1099511627776 from by unfold tNext; rw [if_neg (by omega), if_pos (by show k > 1099511627776 - nw; omega)]; rfl] at h2
        have HH2 := Lib.hid h2
        clear h2 HH
        go_wp2_with fail
        refine (HH2.out.now (1099511627776) rfl).mono ?_
        rintro r w4 ⟨rfl, hb⟩
        replace HH2 := Lib.hid (HH2.out.later hb)
        clear hb
        go_wp2_with fail
        refine (HH2.out.idle rfl).mono ?_
        rintro r w5 ⟨rfl, rfl⟩
        go_wp2_with fail
        go_roundw
        case rel => exact ⟨i + 1, l2, _, by omega, rfl, by go_num, HH2⟩
        case measure => first | omega | (simp [intOf]; done) | (simp [intOf]; omega)
      · rw [hm] at hk2
        clear hm
        go_wp2_with fail
        refine (HH.out.pass (by omega) k).mono ?_
        rintro r w3 ⟨rfl, l2, h2⟩
        rw [show tNext nw k = nw + k from by unfold tNext; rw [if_neg (by omega), if_neg (by show ¬ k > 1099511627776 - nw; omega)]] at h2
        have HH2 := Lib.hid h2
        clear h2 HH
        go_wp2_with fail
        refine (HH2.out.now (nw + k) rfl).mono ?_
        rintro r w4 ⟨rfl, hb⟩
        replace HH2 := Lib.hid (HH2.out.later hb)
        clear hb
        go_wp2_with fail
        refine (HH2.out.idle rfl).mono ?_
        rintro r w5 ⟨rfl, rfl⟩
        go_wp2_with fail
        go_roundw
        case rel => exact ⟨i + 1, l2, _, by omega, rfl, by go_num, HH2⟩
        case measure => first | omega | (simp [intOf]; done) | (simp [intOf]; omega)
    · obtain rfl : i = len0 := by omega
      have hnn : ¬ (i : Int) < (i : Int) := by omega
      clear hi
      go_wp2_with fail
      refine (HH.out.call (by omega) rfl false rfl 0 (by decide) (by decide) rfl).mono ?_
      rintro r w3 ⟨rfl, l2, J2, h2⟩
      have HH2 := Lib.hid h2
      clear h2 HH
      go_wp2_with fail
      refine (HH2.out.step (by omega) ⟨_, rfl⟩).mono ?_
      rintro r w4 ⟨rfl, l3, Y3, h3, hnow⟩
      have HH3 := Lib.hid h3
      have hnow' : Y3.now = min (nw + 1) 1099511627776 := by
        rw [hnow]
        show (if nw < yMax then nw + 1 else yMax) = _
        split <;> omega
      have HN := Lib.hid hnow'
      clear h3 HH2 hnow hnow' hm
      go_wp2_with fail
      refine (HH3.out.now _ HN.out).mono ?_
      rintro r w5 ⟨rfl, hb⟩
      replace HH3 := Lib.hid (HH3.out.later hb)
      clear hb
      go_wp2
      go_ret
      exact ⟨rfl, below_step HB.out HH3.out.h.below⟩

end Go.Proofs.Ythlmekkijknooaa
