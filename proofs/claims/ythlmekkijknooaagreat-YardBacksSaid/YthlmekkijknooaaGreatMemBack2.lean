/-
  The contract of Back of package mem: the cells that come of events alone. No condition but that numbers fit their kinds.
-/
import Derived.Test.YthlmekkijknooaaGreatMemRedo2
namespace Go.Proofs.YthlmekkijknooaaGreat
open Go.RowKit
set_option linter.unusedVariables false

/-- Events, done to cells that were C, agree, and leave D. -/
def Plays : List Ev → List Int → List Int → Prop
  | [], C, D => C = D
  | e :: l, C, D => OkE e C ∧ Plays l (C.set e.cell.toNat e.new) D

theorem plays_snoc : ∀ {l : List Ev} {C D : List Int} {e : Ev}, Plays l C D → OkE e D → Plays (l ++ [e]) C (D.set e.cell.toNat e.new)
  | [], C, D, e, h, he => by
    have h : C = D := h
    subst h
    exact ⟨he, rfl⟩
  | f :: l, C, D, e, h, he => ⟨h.1, plays_snoc h.2 he⟩
theorem plays_one : ∀ {l : List Ev} {C D D' : List Int}, Plays l C D → Plays l C D' → D = D'
  | [], _, _, _, h, h' => (show _ = _ from h).symm.trans h'
  | _ :: _, _, _, _, h, h' => plays_one h.2 h'.2
theorem plays_mid : ∀ {l m : List Ev} {C D D' : List Int}, Plays l C D → Plays (l ++ m) C D' → Plays m D D'
  | [], m, C, D, D', h, h' => by
    have h : C = D := h
    subst h
    exact h'
  | _ :: l, m, C, D, D', h, h' => plays_mid h.2 h'.2
theorem plays_bad {l : List Ev} {k : Nat} {e : Ev} {C D : List Int} (h : Plays (l.take k) C D) (he : l[k]? = some e) (hn : ¬ OkE e D) : ¬ ∃ D', Plays l C D' := by
  rintro ⟨D', h'⟩
  have hk := (List.getElem?_eq_some_iff.1 he)
  have e1 : l = l.take k ++ (e :: l.drop (k + 1)) := by
    obtain ⟨hl, rfl⟩ := hk
    rw [← List.drop_eq_getElem_cons hl, List.take_append_drop]
  rw [e1] at h'
  exact hn (plays_mid h h').1
theorem plays_next {l : List Ev} {k : Nat} {e : Ev} {C D : List Int} (h : Plays (l.take k) C D) (he : l[k]? = some e) (hn : OkE e D) : Plays (l.take (k + 1)) C (D.set e.cell.toNat e.new) := by
  rw [List.take_add_one, he]
  exact plays_snoc h hn
theorem take_next {l : List Ev} {k : Nat} {e : Ev} (he : l[k]? = some e) : l.take (k + 1) = l.take k ++ [e] := by
  rw [List.take_add_one, he]
  rfl

/-- An act's event can be noted of the cells as they were. -/
theorem ac_plays {a : Ac} {C : List Int} {C0 : List Int} {L : List Ev} (h : Plays L C0 C) : Plays (a.log' C L) C0 (a.cells' C) := by
  unfold Ac.log' Ac.cells'
  by_cases hin : 0 ≤ a.cell ∧ a.cell < C.length
  · rw [if_pos hin, if_pos hin]
    have hcell : ∀ y, (a.ev y).cell = a.cell := by
      intro y
      unfold Ac.ev
      repeat' split
      all_goals rfl
    have hok : OkE (a.ev (C.getD a.cell.toNat 0)) C := by
      unfold OkE
      rw [hcell]
      refine ⟨?_, ?_, hin.1, hin.2, ?_, ?_, ?_⟩
      all_goals
        unfold Ac.ev
        repeat' split
        all_goals simp
    have := plays_snoc h hok
    rw [hcell] at this
    exact this
  · rw [if_neg hin, if_neg hin]
    exact h

theorem IsMem.lower {base base' : Nat} {w : World} {p c : Nat} {v : Value} {C : List Int} {L : List Ev} (h : IsMem base w p c v C L) (hb : base' ≤ base) : IsMem base' w p c v C L :=
  ⟨h.c0, h.c1, h.fz, row_base h.row hb, row_base h.log hb, h.pc, h.vp, h.vc, Nat.le_trans hb h.pb, h.ps, h.num⟩

/-- What Back answers: cells that were made just now; whether the events agree. -/
structure Backed (w w' : World) (p c : Nat) (v : Value) (C : List Int) (L : List Ev) (ok : Bool) (m : Nat) (L0 : List Ev) : Prop where
  mem : IsMem w.heap.size w' p c v C L
  below : Below w.heap.size w w'
  len : C.length = m
  log : L.length ≤ L0.length
  yes : ok = true → Plays L0 (List.replicate m 0) C ∧ L = L0
  no : ok = false → ¬ ∃ D, Plays L0 (List.replicate m 0) D

def BackPost (w : World) (m : Nat) (L0 : List Ev) (r : Ending) (w' : World) : Prop :=
  ∃ p c v C L ok, r = .returned (.tuple #[pt p, .bool ok]) ∧ Backed w w' p c v C L ok m L0

set_option maxRecDepth 100000 in
set_option maxHeartbeats 4000000 in
theorem back_any (w : World) (m : Nat) (A : Option Addr) (len cap : Nat) (L0 : List Ev) (hm : m ≤ 65536) (hA : AtE w A L0) (hn : ∀ e ∈ L0, e.num) (hlen : len = L0.length) (hcap : len ≤ 1000000) :
    Calls Tryz.prog 35 #[i64 m, .slice A len cap] w (BackPost w m L0) := by
  have HA := Lib.hid hA
  have HN := Lib.hid hn
  have Hlen := Lib.hid hlen
  clear hA hn hlen
  go_enter Tryz.func35, Tryz.ntmps35
  go_wp2_with fail
  refine (new_nat w.heap.size m m _ (Nat.le_refl _) hm (.inl rfl)).mono ?_
  rintro r w2 ⟨p, c, rfl, hM2, hb2, hp, hc⟩
  have hO := Own.made (Below.refl _ _) hM2 hb2
  clear hM2 hb2 hp hc
  go_wp2_with fail
  go_loopw [13] (fun i wr => ∃ (n : Nat) (v : Value) (C : List Int), n ≤ len ∧ i = .int .i64 n ∧ Own w wr p c v C (L0.take n) ∧ Hid (Plays (L0.take n) (List.replicate m 0) C) ∧ Hid (C.length = m)) (fun i _ => len - (intOf i).toNat)
  case atStart => exact ⟨0, _, _, by omega, rfl, hO, rfl, List.length_replicate⟩
  case round =>
    clear hO
    obtain ⟨n, v, C, hn, rfl, hO, hP, hC⟩ := hrel
    rcases Nat.lt_or_ge n len with hlt | hge
    · have hlt0 : n < L0.length := by have := Hlen.out; omega
      obtain ⟨e, he⟩ : ∃ e, L0[n]? = some e := ⟨_, List.getElem?_eq_getElem hlt0⟩
      have hne : L0 ≠ [] := fun h => by rw [h] at hlt0; simp at hlt0
      have henum := HN.out e (List.mem_of_getElem? he)
      obtain ⟨b1, o1, rfl, _, k1⟩ := (HA.out.later hO.below) hne
      obtain ⟨p0, p1, p2, p3, p4, p5⟩ := k1 n e he
      have He := Lib.hid he
      have Hnum := Lib.hid henum
      have hO1 : Own w (wr.alloc (.cells #[.int .i64 e.who, .int .i64 e.op, .int .i64 e.cell, .int .u64 e.old, .int .u64 e.new, .bool e.ok] 72)) p c v C (L0.take n) := hO.later (below_new (Below.refl _ _) _)
      have htl : (L0.take n).length < 1000000000 := by have := List.length_take_le n L0; have := Hlen.out; omega
      have HO1 := Lib.hid hO1
      have HTL := Lib.hid htl
      clear k1 he hne henum hlt0 hO hO1 htl
      by_cases hok : OkE e C
      · have Hok := Lib.hid hok
        clear hok
        go_wp2_with fail
        refine (redo_good _ _ p c v C _ e HO1.out.mem Hnum.out HO1.out.size HTL.out Hok.out).mono ?_
        rintro r w5 ⟨rfl, v5, hT⟩
        have hO5 := HO1.out.step hT
        rw [← take_next He.out] at hO5
        have hP5 := plays_next hP.out He.out Hok.out
        have HO5 := Lib.hid hO5
        have HP5 := Lib.hid hP5
        clear hT hO5 hP5
        go_wp2
        go_roundw
        case rel => exact ⟨n + 1, v5, _, by omega, by go_num, HO5.out, HP5, by show _ = _; rw [List.length_set]; exact hC.out⟩
        case measure => simp [intOf]; omega
      · have Hok := Lib.hid hok
        clear hok
        go_wp2_with fail
        refine (redo_bad _ _ p c v C _ e HO1.out.mem Hnum.out HO1.out.size HTL.out Hok.out).mono ?_
        rintro r w5 ⟨rfl, v5, C5, L5, hT, hc5, hl5⟩
        have HO5 := Lib.hid (HO1.out.step hT)
        have Hbad := Lib.hid (plays_bad hP.out He.out Hok.out)
        have Hl5 : Hid (L5.length ≤ L0.length) := by
          show _ ≤ _
          rw [List.length_take] at hl5
          have := Hlen.out
          omega
        have Hc5 : Hid (C5.length = m) := by show _ = _; rw [hc5]; exact hC.out
        clear hT hc5 hl5
        go_wp2
        go_ret2
        exact ⟨p, c, v5, C5, L5, false, rfl, HO5.out.mem, HO5.out.below, Hc5.out, Hl5.out, (fun h => by cases h), fun _ => Hbad.out⟩
    · obtain rfl : n = len := by omega
      have hL : L0.take n = L0 := List.take_of_length_le (by have := Hlen.out; omega)
      rw [hL] at hO hP
      have HO := Lib.hid hO
      clear hO hL
      go_wp2
      go_ret2
      exact ⟨p, c, v, C, L0, true, rfl, HO.out.mem, HO.out.below, hC.out, Nat.le_refl _, fun _ => ⟨hP.out, rfl⟩, (fun h => by cases h)⟩

end Go.Proofs.YthlmekkijknooaaGreat
