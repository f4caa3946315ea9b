/-
  Rows of events as they came in; what the law on audits asks of them: what a cell is behind events, what was loaded last. No condition.
-/
import Derived.Test.YtpbpkmmhdfahnaaGreatAuditMay
import Derived.Test.YtpbpkmmhdfahnaaGreatAMem
import Derived.Test.YtpbpkmmhdfahnaaGreatAKit
namespace Go.Proofs.YtpbpkmmhdfahnaaGreat
open Go.RowKit
set_option linter.unusedVariables false

/-- An event that lies somewhere. -/
structure AtEv (w : World) (b o : Nat) (e : Ev) : Prop where
  c0 : w.cell? ⟨b, o, none⟩ = some (.int .i64 e.who)
  c1 : w.cell? ⟨b, o + 1, none⟩ = some (.int .i64 e.op)
  c2 : w.cell? ⟨b, o + 2, none⟩ = some (.int .i64 e.cell)
  c3 : w.cell? ⟨b, o + 3, none⟩ = some (.int .u64 e.old)
  c4 : w.cell? ⟨b, o + 4, none⟩ = some (.int .u64 e.new)
  c5 : w.cell? ⟨b, o + 5, none⟩ = some (.bool e.ok)
structure Ev.Fit (e : Ev) : Prop where
  o0 : 0 ≤ e.old
  o1 : e.old ≤ 18446744073709551615
  n0 : 0 ≤ e.new
  n1 : e.new ≤ 18446744073709551615
  c : (Lit.int .i64 e.cell).wf = true
/-- A row of events. -/
def IsEvs (w : World) (A : Option Addr) (n cap tb off : Nat) (L : List Ev) : Prop :=
  L.length = n ∧ n ≤ cap ∧ (0 < n → A = some ⟨tb, off, none⟩ ∧ tb < w.heap.size) ∧ ∀ i e, L[i]? = some e → AtEv w tb (off + i * 6) e ∧ e.Fit
abbrev Ev.v (e : Ev) : Value := .agg #[.int .i64 e.who, .int .i64 e.op, .int .i64 e.cell, .int .u64 e.old, .int .u64 e.new, .bool e.ok]
abbrev Ev.obj (e : Ev) (T : TypeId) : Obj := .cells #[.int .i64 e.who, .int .i64 e.op, .int .i64 e.cell, .int .u64 e.old, .int .u64 e.new, .bool e.ok] T
section
variable {w w' : World} {A : Option Addr} {n cap tb off : Nat} {L : List Ev}
theorem IsEvs.later (h : IsEvs w A n cap tb off L) (e : Below w.heap.size w w') : IsEvs w' A n cap tb off L := by
  obtain ⟨h1, h2, h3, h4⟩ := h
  refine ⟨h1, h2, fun hn => ⟨(h3 hn).1, Nat.lt_of_lt_of_le (h3 hn).2 e.size⟩, fun i x hx => ⟨?_, (h4 i x hx).2⟩⟩
  have hn : 0 < n := by have := (List.getElem?_eq_some_iff.1 hx).1; omega
  have k : ∀ j, w'.cell? ⟨tb, j, none⟩ = w.cell? ⟨tb, j, none⟩ := fun j => e.cell (p := ⟨tb, j, none⟩) (h3 hn).2
  obtain ⟨c0, c1, c2, c3, c4, c5⟩ := (h4 i x hx).1
  exact ⟨(k _).trans c0, (k _).trans c1, (k _).trans c2, (k _).trans c3, (k _).trans c4, (k _).trans c5⟩
theorem IsEvs.take (h : IsEvs w A n cap tb off L) {m : Nat} (hm : m ≤ n) : IsEvs w A m cap tb off (L.take m) := by
  obtain ⟨h1, h2, h3, h4⟩ := h
  refine ⟨by rw [List.length_take]; omega, by omega, fun hn => h3 (by omega), fun i x hx => h4 i x ?_⟩
  have := (List.getElem?_eq_some_iff.1 hx).1
  rw [List.length_take] at this
  rwa [List.getElem?_take_of_lt (by omega)] at hx
end
theorem lastE_fit {L : List Ev} (h : ∀ e ∈ L, e.Fit) (c : Int) : 0 ≤ lastE L c ∧ lastE L c ≤ 18446744073709551615 := by
  have hg : ∀ (L : List Ev) (x : Int), (∀ e ∈ L, e.Fit) → 0 ≤ x ∧ x ≤ 18446744073709551615 → 0 ≤ L.foldl (fun x e => if e.cell = c then e.new else x) x ∧ L.foldl (fun x e => if e.cell = c then e.new else x) x ≤ 18446744073709551615 := by
    intro L
    induction L with
    | nil => exact fun x _ hx => hx
    | cons e L ih =>
      intro x he hx
      refine ih _ (fun y hy => he y (List.mem_cons_of_mem _ hy)) ?_
      show 0 ≤ (if e.cell = c then e.new else x) ∧ (if e.cell = c then e.new else x) ≤ _
      split
      · exact ⟨(he e List.mem_cons_self).n0, (he e List.mem_cons_self).n1⟩
      · exact hx
  exact hg L 0 h ⟨Int.le_refl _, by decide⟩
theorem IsEvs.fit {w : World} {A : Option Addr} {n cap tb off : Nat} {L : List Ev} (h : IsEvs w A n cap tb off L) : ∀ e ∈ L, e.Fit := fun e he => by
  obtain ⟨i, hi⟩ := List.mem_iff_getElem?.1 he
  exact (h.2.2.2 i e hi).2

set_option maxHeartbeats 2000000 in
/-- What a cell is behind events. -/
theorem llast_any (w : World) (A : Option Addr) (n cap tb off : Nat) (L : List Ev) (c : Int) (hL : IsEvs w A n cap tb off L) (hn : n ≤ 100000) :
    Calls Tryz.prog 49 #[.slice A n cap, .int .i64 c] w fun r w' => r = .returned (.int .u64 (lastE L c)) ∧ Below w.heap.size w w' := by
  have HL := Lib.hid hL
  have hlen := hL.1
  have hcap := hL.2.1
  have HN := Lib.hid hlen
  clear hL hlen
  go_enter Tryz.func49, Tryz.ntmps49
  go_wp2_with fail
  go_loopw [5, 10] (fun xv iw wr => ∃ i : Nat, i ≤ n ∧ xv = .int .u64 (lastE (L.take i) c) ∧ iw = .int .i64 i ∧ Hid (Below w.heap.size w wr)) (fun _ iw _ => n - (RowKit.intOf iw).toNat)
  case atStart => exact ⟨0, Nat.zero_le _, rfl, rfl, Below.refl _ _⟩
  case round =>
    obtain ⟨i, hi, rfl, rfl, HB⟩ := hrel
    rcases Nat.lt_or_ge i n with hil | hil
    · have hil' : (i : Int) < (n : Int) := by omega
      obtain ⟨e, he⟩ : ∃ e, L[i]? = some e := ⟨_, List.getElem?_eq_getElem (by rw [HN.out]; exact hil)⟩
      have HE := Lib.hid he
      obtain ⟨⟨c0, c1, c2, c3, c4, c5⟩, _⟩ := (HL.out.later HB.out).2.2.2 i e he
      obtain ⟨rfl, htb⟩ := (HL.out.later HB.out).2.2.1 (by omega)
      have HB2 := Lib.hid (below_new HB.out (e.obj 40))
      have HT : Hid (lastE (L.take (i + 1)) c = if e.cell = c then e.new else lastE (L.take i) c) := Lib.hid (by rw [List.take_add_one, HE.out]; exact lastE_snoc _ _ _)
      clear he HB
      by_cases hc : e.cell = c
      · have hT := HT.out
        rw [if_pos hc] at hT
        have HT2 := Lib.hid hT
        have e1 : (e.cell == c) = true := by simp [hc]
        clear hc hT HT
        go_wp2_with fail
        go_roundw
        case rel => exact ⟨i + 1, by omega, by rw [HT2.out], by go_num, HB2⟩
        case measure => first | omega | (simp [RowKit.intOf]; done) | (simp [RowKit.intOf]; omega)
      · have hT := HT.out
        rw [if_neg hc] at hT
        have HT2 := Lib.hid hT
        have e1 : (e.cell == c) = false := by simp [hc]
        clear hc hT HT
        go_wp2_with fail
        go_roundw
        case rel => exact ⟨i + 1, by omega, by rw [HT2.out], by go_num, HB2⟩
        case measure => first | omega | (simp [RowKit.intOf]; done) | (simp [RowKit.intOf]; omega)
    · obtain rfl : i = n := by omega
      have hnn : ¬ (i : Int) < (i : Int) := by omega
      rw [List.take_of_length_le (by rw [HN.out]; exact Nat.le_refl _)]
      go_wp2_with fail
      go_ret
      exact ⟨rfl, HB.out⟩

/-- The word of what was loaded. -/
def wOf (x : Int) : Value := wd (x % 4) (x / 4 % 2) (x / 8 % 8192) (x / 65536 % 16777216) (x / 1099511627776)
/-- What is told of what was loaded last. -/
def ldV : Option Int → Value
  | some r => .tuple #[wOf r, .bool true]
  | none => .tuple #[wd 0 0 0 0 0, .bool false]

set_option maxHeartbeats 4000000 in
/-- What a thread loaded last of a cell. -/
theorem loaded_any (w : World) (A : Option Addr) (n cap tb off : Nat) (L : List Ev) (who c : Int) (hL : IsEvs w A n cap tb off L) (hn : n ≤ 100000) :
    Calls Tryz.prog 51 #[.slice A n cap, .int .i64 who, .int .i64 c] w fun r w' => r = .returned (ldV (loadE L who c)) ∧ Below w.heap.size w w' := by
  have HL := Lib.hid hL
  have hlen := hL.1
  have hcap := hL.2.1
  have HN := Lib.hid hlen
  have hw1 : IntKind.i64.wrap ((n : Int) - 1) = (n : Int) - 1 := IntWalk.i64_in _ (by omega)
  have HO0 := Lib.hid (IsObj.made w [i64 0, i64 0, i64 0, i64 0, i64 0] 61)
  have HB0 := Lib.hid (below_new (Below.refl w.heap.size w) (.cells #[i64 0, i64 0, i64 0, i64 0, i64 0] 61))
  have HF := Lib.hid hL.fit
  clear hL hlen
  go_enter Tryz.func51, Tryz.ntmps51
  go_wp2_with fail
  generalize w.alloc (.cells #[i64 0, i64 0, i64 0, i64 0, i64 0] 61) = w0 at HO0 HB0 ⊢
  generalize hwb : w.heap.size = wb at HO0 ⊢
  have HWB := Lib.hid hwb
  clear hwb
  go_loopw [8] (fun iv wr => ∃ k : Nat, k ≤ n ∧ iv = .int .i64 ((k : Int) - 1) ∧ Hid (Below w.heap.size w wr) ∧ Hid (IsObj wr wb [i64 0, i64 0, i64 0, i64 0, i64 0]) ∧ Hid (loadE L who c = loadE (L.take k) who c)) (fun iv _ => (RowKit.intOf iv + 1).toNat)
  case atStart => exact ⟨n, Nat.le_refl _, rfl, HB0, HO0, by show _ = _; rw [List.take_of_length_le (by rw [HN.out]; exact Nat.le_refl _)]⟩
  case round =>
    clear HB0 HO0
    obtain ⟨k, hk, rfl, HB, HO, HS⟩ := hrel
    rcases Nat.eq_zero_or_pos k with rfl | hkp
    · have HS2 : Hid (loadE L who c = none) := HS
      rw [show ((0 : Nat) : Int) - 1 = -1 from rfl]
      have f0 := HO.out.fz 0
      have f1 := HO.out.fz 1
      have f2 := HO.out.fz 2
      have f3 := HO.out.fz 3
      have f4 := HO.out.fz 4
      obtain ⟨q0, q1, q2, q3, q4⟩ : _ ∧ _ ∧ _ ∧ _ ∧ _ := ⟨HO.out.at' 0 _ rfl, HO.out.at' 1 _ rfl, HO.out.at' 2 _ rfl, HO.out.at' 3 _ rfl, HO.out.at' 4 _ rfl⟩
      have HWS := Lib.hid (show w.heap.size ≤ wb by rw [HWB.out]; exact Nat.le_refl _)
      go_wp2
      have HO5 := Lib.hid (((((HO.out.set 0 (i64 0)).set 1 (i64 0)).set 2 (i64 0)).set 3 (i64 0)).set 4 (i64 0))
      have HB5 : Below w.heap.size w (((((wr.setCell ⟨wb, 0, none⟩ (i64 0)).setCell ⟨wb, 1, none⟩ (i64 0)).setCell ⟨wb, 2, none⟩ (i64 0)).setCell ⟨wb, 3, none⟩ (i64 0)).setCell ⟨wb, 4, none⟩ (i64 0)) := below_set (below_set (below_set (below_set (below_set HB.out HWS.out _) HWS.out _) HWS.out _) HWS.out _) HWS.out _
      generalize (((((wr.setCell ⟨wb, 0, none⟩ (i64 0)).setCell ⟨wb, 1, none⟩ (i64 0)).setCell ⟨wb, 2, none⟩ (i64 0)).setCell ⟨wb, 3, none⟩ (i64 0)).setCell ⟨wb, 4, none⟩ (i64 0)) = w5 at HO5 HB5 ⊢
      obtain ⟨z0, z1, z2, z3, z4⟩ : _ ∧ _ ∧ _ ∧ _ ∧ _ := ⟨HO5.out.at' 0 _ rfl, HO5.out.at' 1 _ rfl, HO5.out.at' 2 _ rfl, HO5.out.at' 3 _ rfl, HO5.out.at' 4 _ rfl⟩
      refine bodyPost_ret (v := .tuple #[wd 0 0 0 0 0, .bool false]) (by simp [results, Tryz.results51, go_sem, z0, z1, z2, z3, z4]) rfl ⟨?_, HB5⟩
      rw [HS2.out]
      rfl
    · obtain ⟨j, rfl⟩ : ∃ j, k = j + 1 := ⟨k - 1, by omega⟩
      rw [show ((j + 1 : Nat) : Int) - 1 = (j : Int) by omega]
      have hj0 : (0 : Int) ≤ (j : Int) := by omega
      have hjn : j < n := by omega
      have hjn' : (j : Int) < (n : Int) := by omega
      obtain ⟨e, he⟩ : ∃ e, L[j]? = some e := ⟨_, List.getElem?_eq_getElem (by rw [HN.out]; exact hjn)⟩
      have HE := Lib.hid he
      obtain ⟨⟨c0, c1, c2, c3, c4, c5⟩, hfe⟩ := (HL.out.later HB.out).2.2.2 j e he
      obtain ⟨rfl, htb⟩ := (HL.out.later HB.out).2.2.1 (by omega)
      have hb2 := below_new (Below.refl wr.heap.size wr) (e.obj 40)
      have HB2 := Lib.hid (below_step HB.out hb2)
      have HO2 := Lib.hid (HO.out.later hb2)
      have HT : Hid (loadE (L.take (j + 1)) who c = if e.who = who ∧ e.cell = c ∧ e.op = 0 then some e.old else loadE (L.take j) who c) := Lib.hid (by rw [List.take_add_one, HE.out]; exact loadE_snoc _ _ _ _)
      have hjw : IntKind.i64.wrap ((j : Int) - 1) = (j : Int) - 1 := IntWalk.i64_in _ (by omega)
      clear he hb2 HB HO
      rcases (by omega : e.who ≠ who ∨ (e.who = who ∧ e.cell ≠ c) ∨ (e.who = who ∧ e.cell = c ∧ e.op ≠ 0) ∨ (e.who = who ∧ e.cell = c ∧ e.op = 0)) with g1 | ⟨g1, g2⟩ | ⟨g1, g2, g3⟩ | ⟨g1, g2, g3⟩
      · have x1 : (e.who == who) = false := by simp [g1]
        have HS2 : Hid (loadE L who c = loadE (L.take j) who c) := Lib.hid (by rw [HS.out, HT.out, if_neg (by omega)])
        clear HT HS hfe
        (try clear g1)
        (try clear g2)
        (try clear g3)
        go_wp2_with fail
        go_roundw
        case rel => exact ⟨j, by omega, rfl, HB2, HO2, HS2⟩
        case measure => first | omega | (simp [RowKit.intOf]; done) | (simp [RowKit.intOf]; omega)
      · have x1 : (e.who == who) = true := by simp [g1]
        have x2 : (e.cell == c) = false := by simp [g2]
        have HS2 : Hid (loadE L who c = loadE (L.take j) who c) := Lib.hid (by rw [HS.out, HT.out, if_neg (by omega)])
        clear HT HS hfe
        (try clear g1)
        (try clear g2)
        (try clear g3)
        go_wp2_with fail
        go_roundw
        case rel => exact ⟨j, by omega, rfl, HB2, HO2, HS2⟩
        case measure => first | omega | (simp [RowKit.intOf]; done) | (simp [RowKit.intOf]; omega)
      · have x1 : (e.who == who) = true := by simp [g1]
        have x2 : (e.cell == c) = true := by simp [g2]
        have x3 : (e.op == 0) = false := by simp [g3]
        have HS2 : Hid (loadE L who c = loadE (L.take j) who c) := Lib.hid (by rw [HS.out, HT.out, if_neg (by omega)])
        clear HT HS hfe
        (try clear g1)
        (try clear g2)
        (try clear g3)
        go_wp2_with fail
        go_roundw
        case rel => exact ⟨j, by omega, rfl, HB2, HO2, HS2⟩
        case measure => first | omega | (simp [RowKit.intOf]; done) | (simp [RowKit.intOf]; omega)
      · have x1 : (e.who == who) = true := by simp [g1]
        have x2 : (e.cell == c) = true := by simp [g2]
        have x3 : (e.op == 0) = true := by simp [g3]
        have HS2 : Hid (loadE L who c = some e.old) := Lib.hid (by rw [HS.out, HT.out, if_pos ⟨g1, g2, g3⟩])
        have hf0 := hfe.o0
        have hf1 := hfe.o1
        clear HT HS g1 g2 g3 hfe
        go_wp2_with fail
        refine (unpack_any e.old _ hf0 hf1).mono ?_
        rintro r w3 ⟨rfl, hb3⟩
        have HB3 := Lib.hid (below_step HB2.out hb3)
        have HO3 := Lib.hid (HO2.out.later hb3)
        have HWS := Lib.hid (show w.heap.size ≤ wb by rw [HWB.out]; exact Nat.le_refl _)
        clear hb3 HB2 HO2
        have f0 := HO3.out.fz 0
        have f1 := HO3.out.fz 1
        have f2 := HO3.out.fz 2
        have f3 := HO3.out.fz 3
        have f4 := HO3.out.fz 4
        obtain ⟨q0, q1, q2, q3, q4⟩ : _ ∧ _ ∧ _ ∧ _ ∧ _ := ⟨HO3.out.at' 0 _ rfl, HO3.out.at' 1 _ rfl, HO3.out.at' 2 _ rfl, HO3.out.at' 3 _ rfl, HO3.out.at' 4 _ rfl⟩
        go_wp2
        have HO5 := Lib.hid (((((HO3.out.set 0 (i64 (e.old % 4))).set 1 (i64 (e.old / 4 % 2))).set 2 (i64 (e.old / 8 % 8192))).set 3 (i64 (e.old / 65536 % 16777216))).set 4 (i64 (e.old / 1099511627776)))
        have HB5 : Below w.heap.size w (((((w3.setCell ⟨wb, 0, none⟩ (i64 (e.old % 4))).setCell ⟨wb, 1, none⟩ (i64 (e.old / 4 % 2))).setCell ⟨wb, 2, none⟩ (i64 (e.old / 8 % 8192))).setCell ⟨wb, 3, none⟩ (i64 (e.old / 65536 % 16777216))).setCell ⟨wb, 4, none⟩ (i64 (e.old / 1099511627776))) := below_set (below_set (below_set (below_set (below_set HB3.out HWS.out _) HWS.out _) HWS.out _) HWS.out _) HWS.out _
        generalize (((((w3.setCell ⟨wb, 0, none⟩ (i64 (e.old % 4))).setCell ⟨wb, 1, none⟩ (i64 (e.old / 4 % 2))).setCell ⟨wb, 2, none⟩ (i64 (e.old / 8 % 8192))).setCell ⟨wb, 3, none⟩ (i64 (e.old / 65536 % 16777216))).setCell ⟨wb, 4, none⟩ (i64 (e.old / 1099511627776))) = w5 at HO5 HB5 ⊢
        obtain ⟨z0, z1, z2, z3, z4⟩ : _ ∧ _ ∧ _ ∧ _ ∧ _ := ⟨HO5.out.at' 0 _ rfl, HO5.out.at' 1 _ rfl, HO5.out.at' 2 _ rfl, HO5.out.at' 3 _ rfl, HO5.out.at' 4 _ rfl⟩
        refine bodyPost_ret (v := .tuple #[wd (e.old % 4) (e.old / 4 % 2) (e.old / 8 % 8192) (e.old / 65536 % 16777216) (e.old / 1099511627776), .bool true]) (by simp [results, Tryz.results51, go_sem, z0, z1, z2, z3, z4]) rfl ⟨?_, HB5⟩
        rw [HS2.out]
        rfl
end Go.Proofs.YtpbpkmmhdfahnaaGreat
