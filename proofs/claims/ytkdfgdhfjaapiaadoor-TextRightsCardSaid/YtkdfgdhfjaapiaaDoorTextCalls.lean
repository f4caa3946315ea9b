/-
  Contracts of package text: Right, Len. No condition but that there are no more than a million bytes.
-/
import Derived.Test.YtkdfgdhfjaapiaaDoorTextBld2
import Derived.Test.YtkdfgdhfjaapiaaDoorTextLaid
namespace Go.Proofs.YtkdfgdhfjaapiaaDoor
open Go.RowKit
set_option linter.unusedVariables false

/-- The library's two tables, as they lie when a call begins. -/
abbrev Tabs (w : World) : Prop := Lib.Utf8Tabs 0 1 w
theorem Tabs.later {w w' : World} (h : Tabs w) (hb : Below w.heap.size w w') : Tabs w' := Utf8Tabs_below h hb

theorem right_any (s : ByteArray) (w : World) (hs : s.size ≤ 1000000) (hT : Tabs w) :
    Calls Tryd.prog 13 #[.string s] w fun e w' => e = .returned (.bool (sg s.data.toList).isSome) ∧ Below w.heap.size w w' := by
  have c : Calls Tryd.prog 22 #[.string s] w fun e w' => e = .returned (.bool (sg s.data.toList).isSome) ∧ Below w.heap.size w w' := by
    have := Any.utf8_ValidString lays196 s w (by omega) hT
    rw [valid_sg] at this
    exact this
  obtain ⟨b, hb⟩ : ∃ b, (sg s.data.toList).isSome = b := ⟨_, rfl⟩
  rw [hb] at c ⊢
  go_enter Tryd.func13, Tryd.ntmps13
  go_wp2_with (go_at_call 22; refine c.mono ?_; rintro e w' ⟨rfl, hb'⟩)
  go_wp2
  go_ret
  exact ⟨rfl, hb'⟩

/-- What the iterator of a range over a text of signs gives. -/
theorem next_sign {P : Program} {W : World} {k : Nat} {s : ByteArray} {L : List Bs} (hL : Sg L) (hs : s.data.toList = L.flatten) {i : Nat} (hi : i < L.length) (hit : W.heap[k]? = some (.stringIter s (off L i))) (ty : TypeId) :
    (Instr.next (.pointer (some ⟨k, 0, none⟩)) true ty).run P W = .ok (.tuple #[.bool true, .int .i64 (off L i), .int .i32 ((dec L[i]).1 : Nat)]) (W.iterAt k s (off L (i + 1))) := by
  have hp : off L i < s.size := by rw [← size_list, hs]; exact off_lt hL hi
  have hd : Utf8.decode s (off L i) = dec L[i] := by rw [decode_dec, hs]; exact dec_off' hL hi
  have h := Lib.run_next_any_at (P := P) W k s (off L i) ty hit hp
  rw [hd] at h
  rw [off_succ L i hi, ← (hL _ (List.getElem_mem hi)).2.1]
  exact h
theorem next_none {P : Program} {W : World} {k : Nat} {s : ByteArray} {L : List Bs} (hs : s.data.toList = L.flatten) (hit : W.heap[k]? = some (.stringIter s (off L L.length))) (ty : TypeId) :
    (Instr.next (.pointer (some ⟨k, 0, none⟩)) true ty).run P W = .ok (.tuple #[.bool false]) W :=
  Lib.run_next_end_at (P := P) W k s _ ty hit (by rw [off_all L _ (Nat.le_refl _), ← size_list, hs]; omega)
theorem it_made (w : World) (base : Nat) (hb : base ≤ w.heap.size) (s : ByteArray) (L : List Bs) : (tIt base w.heap.size s (off L 0)).P (w.alloc (.stringIter s 0)) := ⟨heap_alloc_new _ _, hb⟩

set_option maxHeartbeats 1000000 in
theorem len_any {L : List Bs} (hL : Sg L) (s : ByteArray) (hs : s.data.toList = L.flatten) (hn : s.size ≤ 1000000) (w : World) :
    Calls Tryd.prog 15 #[.string s] w fun e w' => e = .returned (.int .i64 L.length) ∧ Below w.heap.size w w' := by
  have hLn : L.length ≤ 1000000 := by have := hL.le; rw [← hs, size_list] at this; omega
  go_enter Tryd.func15, Tryd.ntmps15
  go_wp2_with fail
  go_loopw [3] (fun nv wr => ∃ k : Nat, k ≤ L.length ∧ nv = .int .i64 k ∧ Hid (Hold w wr [tIt w.heap.size w.heap.size s (off L k)])) (fun nv _ => L.length - (RowKit.intOf nv).toNat)
  case atStart =>
    refine ⟨0, Nat.zero_le _, rfl, Lib.hid ?_⟩
    exact (Hold.nil (Below.refl _ w)).more (A := tIt w.heap.size w.heap.size s (off L 0)) (below_new (Below.refl _ _) _) (tIt_ok _ _ _ _) (it_made w _ (Nat.le_refl _) s L) (fun q hq => by cases hq; exact Nat.le_refl _)
  case round =>
    obtain ⟨k, hk, rfl, HH⟩ := hrel
    have hit := ((HH.out.has 0 _ rfl : _ ∧ _).1 : wr.heap[w.heap.size]? = _)
    rcases Nat.lt_or_ge k L.length with hkl | hkl
    · have hnx := next_sign (P := Tryd.prog) hL hs hkl hit
      have HH2 := Lib.hid (HH.out.next 0 rfl (off L (k + 1)))
      clear HH hit
      go_wp2_with fail
      go_roundw
      case rel => exact ⟨k + 1, hkl, by simp, HH2⟩
      case measure => simp only [RowKit.intOf]; omega
    · obtain rfl : k = L.length := by omega
      have hnx := next_none (P := Tryd.prog) hs hit
      go_wp2_with fail
      go_ret
      exact ⟨rfl, HH.out.below⟩
end Go.Proofs.YtkdfgdhfjaapiaaDoor
