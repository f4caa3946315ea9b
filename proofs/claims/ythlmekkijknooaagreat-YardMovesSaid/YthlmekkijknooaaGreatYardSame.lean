/-
  The contract of the laws' own test whether two rows of events are the same, where they are. No condition.
-/
import Derived.Test.YthlmekkijknooaaGreatYardLoop
namespace Go.Proofs.YthlmekkijknooaaGreat
open Go.RowKit
set_option linter.unusedVariables false

theorem flatE_at : ∀ {l : List Ev} {i j : Nat} {d : Ev}, l[i]? = some d → j < 6 → (flatE l)[i * 6 + j]? = d.cells[j]?
  | [], i, j, d, h, hj => by simp at h
  | e :: l, 0, j, d, h, hj => by
    cases h
    rw [flatE, Nat.zero_mul, Nat.zero_add, List.getElem?_append_left (by exact hj)]
  | e :: l, i + 1, j, d, h, hj => by
    rw [List.getElem?_cons_succ] at h
    rw [flatE, List.getElem?_append_right (by show 6 ≤ _; omega), show (i + 1) * 6 + j - e.cells.length = i * 6 + j by show (i + 1) * 6 + j - 6 = _; omega]
    exact flatE_at h hj
/-- An event that lies somewhere. -/
structure AtEv (w : World) (b o : Nat) (e : Ev) : Prop where
  c0 : w.cell? ⟨b, o, none⟩ = some (i64 e.who)
  c1 : w.cell? ⟨b, o + 1, none⟩ = some (i64 e.op)
  c2 : w.cell? ⟨b, o + 2, none⟩ = some (i64 e.cell)
  c3 : w.cell? ⟨b, o + 3, none⟩ = some (u64 e.old)
  c4 : w.cell? ⟨b, o + 4, none⟩ = some (u64 e.new)
  c5 : w.cell? ⟨b, o + 5, none⟩ = some (.bool e.ok)
/-- Events that lie somewhere. -/
def EvAt (w : World) (A : Option Addr) (L : List Ev) : Prop := 0 < L.length → ∃ g, A = some ⟨g, 0, none⟩ ∧ ∀ (i j : Nat) (e : Ev) (u : Value), L[i]? = some e → j < 6 → e.cells[j]? = some u → w.cell? ⟨g, i * 6 + j, none⟩ = some u
theorem EvAt.row {w : World} {base cap : Nat} {A : Option Addr} {L E : List Ev} (h : w.ownsRow base 72 6 (.slice A (L ++ E).length cap) (L ++ E).length (flatE (L ++ E))) : EvAt w A L := fun hp => by
  obtain ⟨g, cap', hv⟩ := own_at h (by rw [List.length_append]; omega)
  cases hv
  refine ⟨g, rfl, fun i j e u hi hj hu => ?_⟩
  have hil := (List.getElem?_eq_some_iff.1 hi).1
  rw [h.cellAt _ (by rw [List.length_append]; omega), flatE_at (by rw [List.getElem?_append_left hil]; exact hi) hj]
  exact hu
theorem EvAt.row0 {w : World} {base cap : Nat} {A : Option Addr} {L : List Ev} (h : w.ownsRow base 72 6 (.slice A L.length cap) L.length (flatE L)) : EvAt w A L := EvAt.row (E := []) (by rw [List.append_nil]; exact h)

set_option maxHeartbeats 2000000 in
theorem same_any (w : World) (A B : Option Addr) (capA capB : Nat) (L : List Ev) (hA : EvAt w A L) (hB : EvAt w B L) (hn : L.length ≤ 1000000) :
    Calls Tryz.prog 24 #[.slice A L.length capA, .slice B L.length capB] w fun r w' => r = .returned (.bool true) ∧ Below w.heap.size w w' := by
  have HA := Lib.hid hA
  have HB := Lib.hid hB
  clear hA hB
  go_enter Tryz.func24, Tryz.ntmps24
  go_wp2_with fail
  go_loopw [13] (fun ix wr => ∃ i : Nat, i ≤ L.length ∧ ix = .int .i64 i ∧ Hid (Below w.heap.size w wr)) (fun ix _ => 2000000 - (intOf ix).toNat)
  case atStart => exact ⟨0, Nat.zero_le _, rfl, Below.refl _ _⟩
  case round =>
    obtain ⟨i, hi, rfl, HW⟩ := hrel
    rcases Nat.lt_or_ge i L.length with hil | hil
    · have hil' : (i : Int) < (L.length : Int) := by omega
      obtain ⟨ga, rfl, ha⟩ := HA.out (by omega)
      obtain ⟨gb, rfl, hb⟩ := HB.out (by omega)
      obtain ⟨e, he⟩ : ∃ e, L[i]? = some e := ⟨_, List.getElem?_eq_getElem hil⟩
      have hW : Below w.heap.size w wr.drew := below_step HW.out (Below.refl _ _).drew
      have fa : ∀ j u, j < 6 → e.cells[j]? = some u → wr.drew.cell? ⟨ga, i * 6 + j, none⟩ = some u := fun j u hj hu => (hW.cell (p := ⟨ga, i * 6 + j, none⟩) (World.block_lt_of_cell? _ _ (ha i j e u he hj hu))).trans (ha i j e u he hj hu)
      have fb : ∀ j u, j < 6 → e.cells[j]? = some u → wr.drew.cell? ⟨gb, i * 6 + j, none⟩ = some u := fun j u hj hu => (hW.cell (p := ⟨gb, i * 6 + j, none⟩) (World.block_lt_of_cell? _ _ (hb i j e u he hj hu))).trans (hb i j e u he hj hu)
      have HE : Hid (AtEv wr.drew ga (i * 6) e ∧ AtEv wr.drew gb (i * 6) e) := Lib.hid ⟨⟨fa 0 _ (by decide) rfl, fa 1 _ (by decide) rfl, fa 2 _ (by decide) rfl, fa 3 _ (by decide) rfl, fa 4 _ (by decide) rfl, fa 5 _ (by decide) rfl⟩, ⟨fb 0 _ (by decide) rfl, fb 1 _ (by decide) rfl, fb 2 _ (by decide) rfl, fb 3 _ (by decide) rfl, fb 4 _ (by decide) rfl, fb 5 _ (by decide) rfl⟩⟩
      have HWD := Lib.hid hW
      clear ha hb fa fb hW he
      go_wp2_with fail
      refine wp_region_seqS ((fun w' => AtEv w' ga (i * 6) e ∧ AtEv w' gb (i * 6) e)) ((0, true) :: (1, true) :: (2, true) :: (3, true) :: (4, true) :: (5, true) :: (6, true) :: (7, true) :: (8, true) :: []) (by kernel_rfl) (by kernel_rfl) (by kernel_rfl) (by decide) (fun _ _ _ _ _ h => h) (HE.out) ?_
      repeat (first | (refine seq_take (v := ?_) rfl ?_ ?_ ?_; rotate_left 1; rfl; (focus (intro wS hSw; obtain ⟨⟨c0, c1, c2, c3, c4, c5⟩, ⟨d0, d1, d2, d3, d4, d5⟩⟩ := hSw; go_simp; first | done | with_reducible rfl)); (try simp only [Act.put, List.setIfInBounds_toArray, List.set_cons_zero, List.set_cons_succ])) | (refine seq_skip rfl ?_ ?_; rfl; (try simp only [Act.put, List.setIfInBounds_toArray, List.set_cons_zero, List.set_cons_succ])))
      refine seq_done ?_
      go_wp2_with fail
      go_roundw
      case rel => exact ⟨i + 1, by omega, by go_num, HWD⟩
      case measure => first | omega | (simp [intOf]; done) | (simp [intOf]; omega)
    · obtain rfl : i = L.length := by omega
      have hnn : ¬ (L.length : Int) < (L.length : Int) := by omega
      go_wp2
      go_ret
      exact ⟨rfl, HW.out⟩

end Go.Proofs.YthlmekkijknooaaGreat
