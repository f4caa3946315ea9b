/-
  The contract of package text's Lines. No condition but that the text is of signs, and that there are no more than 100000 bytes.
-/
import Derived.Test.YtkdfgdhfjaapiaaDoorTextCalls
import Derived.Test.YtkdfgdhfjaapiaaDoorTextPure
import Derived.Deep.DeepCutAuto
namespace Go.Proofs.YtkdfgdhfjaapiaaDoor
open Go.RowKit
set_option linter.unusedVariables false

set_option maxHeartbeats 2000000 in
theorem lines_any {L : List Bs} (hL : Sg L) (s : ByteArray) (hs : s.data.toList = L.flatten) (hn : s.size ≤ 100000) (w : World) :
    Calls Tryd.prog 17 #[.string s] w fun e w' => e = .returned (.string ⟨((L.map lineS).flatten).toArray⟩) ∧ Below w.heap.size w w' := by
  have hLn : L.length ≤ 100000 := by have := hL.le; rw [← hs, size_list] at this; omega
  have hFn : L.flatten.length ≤ 100000 := by rw [← hs, size_list]; omega
  go_enter Tryd.func17, Tryd.ntmps17
  go_wp2_with fail
  go_loopw [] (fun wr => ∃ (k : Nat) (p v : Value), k ≤ L.length ∧ Hid (Hold w wr [tBld w.heap.size w.heap.size p v (((L.take k).map lineS).flatten), tIt w.heap.size (w.heap.size + 1) s (off L k)])) (fun wr => s.size - wr.iterPos (w.heap.size + 1))
  case atStart =>
    refine ⟨0, .pointer none, .slice none 0 0, Nat.zero_le _, Lib.hid ?_⟩
    have h1 := (Hold.nil (Below.refl w.heap.size w)).more (A := tBld w.heap.size w.heap.size (.pointer none) (.slice none 0 0) []) (below_new (Below.refl _ _) (.cells #[.pointer none, .slice none 0 0] 45)) (tBld_ok _ _ _ _ _) (BAt.made w _ (Nat.le_refl _)) (fun q hq => by rcases hq with rfl | hq; exact Nat.le_refl _; simp [Value.ownBlock] at hq)
    have h2 := h1.more (A := tIt w.heap.size (w.heap.size + 1) s (off L 0)) (below_new (Below.refl _ _) _) (tIt_ok _ _ _ _) (by have := it_made (w.alloc (.cells #[.pointer none, .slice none 0 0] 45)) w.heap.size (by simp) s L; simpa using this) (fun q hq => by cases hq; simp)
    exact h2
  case round =>
    obtain ⟨k, p, v, hk, HH⟩ := hrel
    have hit := ((HH.out.has 1 _ rfl : _ ∧ _).1 : wr.heap[w.heap.size + 1]? = _)
    rcases Nat.lt_or_ge k L.length with hkl | hkl
    · have hnx := next_sign (P := Tryd.prog) hL hs hkl hit
      have HH2 := Lib.hid (HH.out.next 1 rfl (off L (k + 1)))
      have hx := hL _ (List.getElem_mem hkl)
      have hli := hx.line
      have hkn : (((L.take k).map lineS).flatten).length ≤ 1000000 := by
        have h1 := lines_len (L.take k)
        have h2 := take_len L k
        have h3 : (L.take k).length ≤ L.length := by rw [List.length_take]; omega
        omega
      have hcont : ((L.take (k + 1)).map lineS).flatten = ((L.take k).map lineS).flatten ++ lineS L[k] := by rw [take_snoc hkl, List.map_append, List.flatten_append]; simp only [List.map_cons, List.map_nil, List.flatten_cons, List.flatten_nil, List.append_nil]
      have hms : off L k < off L (k + 1) := by rw [off_succ L k hkl]; have := hx.1; omega
      have hoff := off_le L (k + 1)
      rw [← hs, size_list] at hoff
      obtain ⟨r, hr⟩ : ∃ r, (dec L[k]).1 = r := ⟨_, rfl⟩
      have hpos : wr.iterPos (w.heap.size + 1) = off L k := by simp [World.iterPos, hit]
      rw [hr] at hnx hli
      clear HH
      have fin : ∀ (y : Int), ((dec (lineS L[k])).1 : Int) = y → ∀ w0 : World, w0 = wr.iterAt (w.heap.size + 1) s (off L (k + 1)) → Calls Tryd.prog 19 #[pt w.heap.size, .int .i32 y] w0 fun e w' => (∃ n : Int, e = .returned (.tuple #[.int .i64 n, .nilIface])) ∧ ∃ v', Hold w w' [tBld w.heap.size w.heap.size (pt w.heap.size) v' (((L.take (k + 1)).map lineS).flatten), tIt w.heap.size (w.heap.size + 1) s (off L (k + 1))] := by
        rintro y rfl w0 rfl
        have hB := (HH2.out.has 0 _ rfl : BAt _ _ _ _ _ _)
        refine (wrune_any w.heap.size w.heap.size p v _ (lineS L[k]) _ hB hli.1 hkn HH2.out.size).mono ?_
        rintro e w' ⟨rfl, v', hW⟩
        rw [← hcont] at hW
        exact ⟨⟨_, rfl⟩, v', HH2.out.wrote 0 rfl hW⟩
      have hli2 := hli.2
      clear hli HH2 hit
      have three : r = 10 ∨ r = 9 ∨ (r ≠ 10 ∧ r ≠ 9) := by omega
      rcases three with c | c | ⟨c, d⟩
      · subst c
        go_wp2_with (go_at_call 19; refine (fin 9166 (by rw [hli2]; rfl) _ rfl).mono ?_; rintro e w' ⟨⟨n, rfl⟩, v', hH⟩)
        have HH3 := Lib.hid hH
        have hit3 := ((hH.has 1 _ rfl : _ ∧ _).1 : w'.heap[w.heap.size + 1]? = _)
        clear hH fin
        go_wp2_with fail
        go_roundw
        case rel => exact ⟨k + 1, _, v', hkl, HH3⟩
        case measure => simp only [World.iterPos, hit3] at hpos ⊢; omega
      · subst c
        go_wp2_with (go_at_call 19; refine (fin 8677 (by rw [hli2]; rfl) _ rfl).mono ?_; rintro e w' ⟨⟨n, rfl⟩, v', hH⟩)
        have HH3 := Lib.hid hH
        have hit3 := ((hH.has 1 _ rfl : _ ∧ _).1 : w'.heap[w.heap.size + 1]? = _)
        clear hH fin
        go_wp2_with fail
        go_roundw
        case rel => exact ⟨k + 1, _, v', hkl, HH3⟩
        case measure => simp only [World.iterPos, hit3] at hpos ⊢; omega
      · rw [if_neg c, if_neg d] at hli2
        have c' : ¬ ((r : Int) = 10) := by omega
        have d' : ¬ ((r : Int) = 9) := by omega
        go_wp2_with (go_at_call 19; refine (fin (r : Int) (by rw [hli2]) _ rfl).mono ?_; rintro e w' ⟨⟨n, rfl⟩, v', hH⟩)
        have HH3 := Lib.hid hH
        have hit3 := ((hH.has 1 _ rfl : _ ∧ _).1 : w'.heap[w.heap.size + 1]? = _)
        clear hH fin
        go_wp2_with fail
        go_roundw
        case rel => exact ⟨k + 1, _, v', hkl, HH3⟩
        case measure => simp only [World.iterPos, hit3] at hpos ⊢; omega
    · obtain rfl : k = L.length := by omega
      have hnx := next_none (P := Tryd.prog) hs hit
      rw [List.take_of_length_le (Nat.le_refl _)] at HH
      go_wp2_with (go_at_call 20; refine (bstr_any w.heap.size w.heap.size p v _ _ (HH.out.has 0 _ rfl)).mono ?_; rintro e w' ⟨rfl, hK⟩)
      go_wp2_with fail
      go_ret
      refine ⟨rfl, below_keep HH.out.below hK HH.out.size (fun i hi => ?_)⟩
      exact ((tBld_ok _ _ _ _ _).lt wr i (HH.out.has 0 _ rfl) (.inr hi)).1
end Go.Proofs.YtkdfgdhfjaapiaaDoor
