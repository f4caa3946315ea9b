/-
  The contract of Act.Do of package stackyardlaw03: an act, done to cells; what it tells, what the cells are then, and what is noted. No condition but that numbers fit their kinds.
-/
import Derived.Test.YteokinaneilgjaaWalkMemSums
namespace Go.Proofs.Yteokinaneilgjaa
open Go.RowKit
set_option linter.unusedVariables false

theorem and_i64 (a : Int) (m k : Nat) (hm : m + 1 = 2 ^ k) (hk : k ≤ 32) : bits .and .i64 a (m : Int) = a % ((m : Int) + 1) := by
  have h2 : 2 ^ k ≤ 2 ^ 32 := Nat.pow_le_pow_right (by decide) hk
  show IntKind.i64.wrap ((BitVec.ofInt 64 a &&& BitVec.ofInt 64 (m : Int)).toNat : Int) = _
  have hm' : (BitVec.ofInt 64 (m : Int)).toNat = m := by
    rw [BitVec.toNat_ofInt]
    omega
  rw [BitVec.toNat_and, hm', show m = 2 ^ k - 1 by omega, Nat.and_two_pow_sub_one_eq_mod, BitVec.toNat_ofInt, ← hm, IntKind.wrap_i64]
  have hd : ((m + 1 : Nat) : Int) ∣ 18446744073709551616 := by
    rw [hm]
    refine ⟨((2 ^ (64 - k) : Nat) : Int), ?_⟩
    rw [← Int.natCast_mul, ← Nat.pow_add, show k + (64 - k) = 64 by omega]
    rfl
  have e1 : (((a % ((2 ^ 64 : Nat) : Int)).toNat % (m + 1) : Nat) : Int) = a % ((m : Int) + 1) := by
    rw [Int.natCast_emod, Int.toNat_of_nonneg (by omega)]
    have := Int.emod_emod_of_dvd a hd
    simpa using this
  rw [e1]
  have h0 := Int.emod_nonneg a (show ((m : Int) + 1) ≠ 0 by omega)
  have h1 := Int.emod_lt_of_pos a (show (0 : Int) < (m : Int) + 1 by omega)
  have h3 : ((m : Int) + 1) ≤ 4294967296 := by
    have : m + 1 ≤ 4294967296 := by omega
    omega
  simp only [show m + 1 - 1 = m by omega]
  omega

/-- Something that is done to a cell. -/
structure Ac where
  who : Int
  op : Int
  cell : Int
  old : Int
  x : Int

abbrev Ac.val (a : Ac) : Value := .agg #[.int .i64 a.who, .int .i64 a.op, .int .i64 a.cell, .int .u64 a.old, .int .u64 a.x]

def Ac.ok (a : Ac) : Prop := 0 ≤ a.old ∧ a.old ≤ 18446744073709551615 ∧ 0 ≤ a.x ∧ a.x ≤ 18446744073709551615

/-- What is noted of an act, on a cell that is y. -/
def Ac.ev (a : Ac) (y : Int) : Ev :=
  if a.op % 4 = 0 then ⟨a.who, 0, a.cell, y, y, true⟩ else
  if a.op % 4 = 1 then ⟨a.who, 1, a.cell, y, a.x, true⟩ else
  if a.op % 4 = 2 then (if y = a.old then ⟨a.who, 2, a.cell, y, a.x, true⟩ else ⟨a.who, 2, a.cell, y, y, false⟩) else
  ⟨a.who, 3, a.cell, y, add64 y a.x, true⟩

/-- What an act tells. -/
def Ac.num (a : Ac) (y : Int) : Int := if a.op % 4 = 0 then y else if a.op % 4 = 3 then y else 0

/-- The cells behind an act. -/
def Ac.cells' (a : Ac) (C : List Int) : List Int :=
  if 0 ≤ a.cell ∧ a.cell < C.length then C.set a.cell.toNat (a.ev (C.getD a.cell.toNat 0)).new else C
/-- What was noted behind an act. -/
def Ac.log' (a : Ac) (C : List Int) (L : List Ev) : List Ev :=
  if 0 ≤ a.cell ∧ a.cell < C.length then L ++ [a.ev (C.getD a.cell.toNat 0)] else L
def Ac.n' (a : Ac) (C : List Int) : Int := if 0 ≤ a.cell ∧ a.cell < C.length then a.num (C.getD a.cell.toNat 0) else 0
def Ac.b' (a : Ac) (C : List Int) : Bool := if 0 ≤ a.cell ∧ a.cell < C.length then (a.ev (C.getD a.cell.toNat 0)).ok else !decide (a.op % 4 = 2)

theorem Ac.length (a : Ac) (C : List Int) : (a.cells' C).length = C.length := by
  unfold Ac.cells'
  split
  · exact List.length_set
  · rfl
theorem Ac.log_length (a : Ac) (C : List Int) (L : List Ev) : (a.log' C L).length ≤ L.length + 1 := by
  unfold Ac.log'
  split
  · simp
  · omega

def DoPost (base : Nat) (w : World) (p c : Nat) (v : Value) (C : List Int) (L : List Ev) (a : Ac) (r : Ending) (w' : World) : Prop :=
  r = .returned (.tuple #[u64 (a.n' C), .bool (a.b' C)]) ∧ ∃ v', Touched base w w' p c v v' (a.cells' C) (a.log' C L)

theorem Touched.after {base : Nat} {w W w' : World} {p c : Nat} {v v' : Value} {C L} (hb : Below w.heap.size w W) (h : Touched base W w' p c v v' C L) : Touched base w w' p c v v' C L :=
  ⟨h.mem, (Keep.of_below hb).trans h.keep, fun k hk => (h.moved k hk).imp id (fun h => Nat.le_trans hb.size h)⟩
theorem Touched.none {base : Nat} {w w' : World} {p c : Nat} {v : Value} {C L} (h : IsMem base w p c v C L) (hb : Below w.heap.size w w') : Touched base w w' p c v v C L :=
  ⟨h.later hb, Keep.of_below hb, moved_refl _ _⟩

theorem mod4 (a : Int) : a % 4 = 0 ∨ a % 4 = 1 ∨ a % 4 = 2 ∨ a % 4 = 3 := by omega

set_option maxHeartbeats 4000000 in
theorem do_any (base : Nat) (w : World) (p c : Nat) (v : Value) (C : List Int) (L : List Ev) (a : Ac) (hM : IsMem base w p c v C L) (ha : a.ok) (hb : base ≤ w.heap.size) (hL : L.length < 1000000000) :
    Calls Try.prog 18 #[a.val, pt p] w (DoPost base w p c v C L a) := by
  obtain ⟨who, op, cell, old, x⟩ := a
  have HM : Hid (IsMem base w p c v C L) := hM
  obtain ⟨o0, o1, x0, x1⟩ := ha
  simp only at o0 o1 x0 x1
  have hand : bits .and .i64 op 3 = op % 4 := and_i64 op 3 2 rfl (by decide)
  have hbel : Below w.heap.size w (w.alloc (.cells #[.int .i64 who, .int .i64 op, .int .i64 cell, .int .u64 old, .int .u64 x] 30)) := below_new (Below.refl _ _) _
  have HB := Lib.hid hbel
  have hbs : Hid (base ≤ (w.alloc (.cells #[.int .i64 who, .int .i64 op, .int .i64 cell, .int .u64 old, .int .u64 x] 30)).heap.size) := Nat.le_trans hb hbel.size
  clear hM hbel
  by_cases hin : 0 ≤ cell ∧ cell < C.length
  · obtain ⟨i, rfl⟩ := Int.eq_ofNat_of_zero_le hin.1
    have hi : i < C.length := by omega
    obtain ⟨y, hy⟩ : ∃ y, C[i]? = some y := ⟨_, List.getElem?_eq_getElem hi⟩
    have hd : C.getD i 0 = y := by rw [List.getD_eq_getElem?_getD, hy]; rfl
    have hP : Hid (∀ e w', DoPost base w p c v C L ⟨who, op, i, old, x⟩ e w' ↔ (e = .returned (.tuple #[u64 (Ac.num ⟨who, op, i, old, x⟩ y), .bool (Ac.ev ⟨who, op, i, old, x⟩ y).ok]) ∧ ∃ v', Touched base w w' p c v v' (C.set i (Ac.ev ⟨who, op, i, old, x⟩ y).new) (L ++ [Ac.ev ⟨who, op, i, old, x⟩ y]))) := by
      intro e w'
      unfold DoPost Ac.n' Ac.b' Ac.cells' Ac.log'
      simp only [hin, and_self, if_true, Int.toNat_natCast, hd]
    have Hy := Lib.hid hy
    clear hd hy hin
    rcases mod4 op with h4 | h4 | h4 | h4
    · have hn : Ac.num ⟨who, op, i, old, x⟩ y = y := by simp [Ac.num, h4]
      have he : Ac.ev ⟨who, op, i, old, x⟩ y = ⟨who, 0, i, y, y, true⟩ := by simp [Ac.ev, h4]
      rw [hn, he] at hP
      rw [h4] at hand
      clear hn he
      go_enter Try.func18, Try.ntmps18
      go_wp2_with fail
      refine (load_in base _ p c v C L who i y (HM.out.later HB.out) Hy.out hbs.out hL).mono ?_
      rintro r w' ⟨rfl, v', hT⟩
      go_wp2
      go_ret2
      exact (hP.out _ _).2 ⟨rfl, v', by rw [set_same Hy.out]; exact hT.after HB.out⟩
    · have hn : Ac.num ⟨who, op, i, old, x⟩ y = 0 := by simp [Ac.num, h4]
      have he : Ac.ev ⟨who, op, i, old, x⟩ y = ⟨who, 1, i, y, x, true⟩ := by simp [Ac.ev, h4]
      rw [hn, he] at hP
      rw [h4] at hand
      clear hn he
      go_enter Try.func18, Try.ntmps18
      go_wp2_with fail
      refine (store_in base _ p c v C L who i y x (HM.out.later HB.out) Hy.out hbs.out hL x0 x1).mono ?_
      rintro r w' ⟨rfl, v', hT⟩
      go_wp2
      go_ret2
      exact (hP.out _ _).2 ⟨rfl, v', hT.after HB.out⟩
    · have hn : Ac.num ⟨who, op, i, old, x⟩ y = 0 := by simp [Ac.num, h4]
      by_cases hyo : y = old
      · have he : Ac.ev ⟨who, op, i, old, x⟩ y = ⟨who, 2, i, y, x, true⟩ := by simp [Ac.ev, h4, hyo]
        rw [hn, he] at hP
        rw [h4] at hand
        clear hn he
        subst hyo
        go_enter Try.func18, Try.ntmps18
        go_wp2_with fail
        refine (swap_yes base _ p c v C L who i y x (HM.out.later HB.out) Hy.out hbs.out hL x0 x1).mono ?_
        rintro r w' ⟨rfl, v', hT⟩
        go_wp2
        go_ret2
        exact (hP.out _ _).2 ⟨rfl, v', hT.after HB.out⟩
      · have he : Ac.ev ⟨who, op, i, old, x⟩ y = ⟨who, 2, i, y, y, false⟩ := by simp [Ac.ev, h4, hyo]
        rw [hn, he] at hP
        rw [h4] at hand
        have Hyo := Lib.hid hyo
        clear hn he hyo
        go_enter Try.func18, Try.ntmps18
        go_wp2_with fail
        refine (swap_no base _ p c v C L who i y old x (HM.out.later HB.out) Hy.out hbs.out hL Hyo.out).mono ?_
        rintro r w' ⟨rfl, v', hT⟩
        go_wp2
        go_ret2
        exact (hP.out _ _).2 ⟨rfl, v', by rw [set_same Hy.out]; exact hT.after HB.out⟩
    · have hn : Ac.num ⟨who, op, i, old, x⟩ y = y := by simp [Ac.num, h4]
      have he : Ac.ev ⟨who, op, i, old, x⟩ y = ⟨who, 3, i, y, add64 y x, true⟩ := by simp [Ac.ev, h4]
      rw [hn, he] at hP
      rw [h4] at hand
      clear hn he
      go_enter Try.func18, Try.ntmps18
      go_wp2_with fail
      refine (add_in base _ p c v C L who i y x (HM.out.later HB.out) Hy.out hbs.out hL).mono ?_
      rintro r w' ⟨rfl, v', hT⟩
      go_wp2
      go_ret2
      exact (hP.out _ _).2 ⟨rfl, v', hT.after HB.out⟩
  · have ho : cell < 0 ∨ (C.length : Int) ≤ cell := by omega
    have hP : Hid (∀ e w', DoPost base w p c v C L ⟨who, op, cell, old, x⟩ e w' ↔ (e = .returned (.tuple #[u64 0, .bool (!decide (op % 4 = 2))]) ∧ ∃ v', Touched base w w' p c v v' C L)) := by
      intro e w'
      unfold DoPost Ac.n' Ac.b' Ac.cells' Ac.log'
      simp only [hin, if_false]
    have HO := Lib.hid ho
    clear hin ho
    rcases mod4 op with h4 | h4 | h4 | h4
    all_goals
      rw [h4] at hand hP
      go_enter Try.func18, Try.ntmps18
      go_wp2_with fail
      first
        | refine (load_out base _ p c v C L who cell (HM.out.later HB.out) HO.out).mono ?_
        | refine (store_out base _ p c v C L who cell x (HM.out.later HB.out) HO.out).mono ?_
        | refine (swap_out base _ p c v C L who cell old x (HM.out.later HB.out) HO.out).mono ?_
        | refine (add_out base _ p c v C L who cell x (HM.out.later HB.out) HO.out).mono ?_
      rintro r w' ⟨rfl, rfl⟩
      go_wp2
      go_ret2
      exact (hP.out _ _).2 ⟨rfl, v, Touched.none HM.out HB.out⟩

end Go.Proofs.Yteokinaneilgjaa
