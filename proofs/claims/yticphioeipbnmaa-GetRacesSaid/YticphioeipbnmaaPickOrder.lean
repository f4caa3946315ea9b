/-
  Contracts of Order and At: what they answer, in terms of one number for each place. No condition but that the words are numbers of 64 bits, and no more than a million.
-/
import Derived.Test.YticphioeipbnmaaPickCalls
import Derived.Test.YticphioeipbnmaaPickKey
namespace Go.Proofs.Yticphioeipbnmaa
open Go.RowKit Go.Shelf Go.Lib Go.Sort
set_option linter.unusedVariables false

/-- From left to right, all that is live. -/
structure IsOrder (ws : List Int) (S : List Nat) : Prop where
  rise : S.Pairwise (fun i j => wkey ws i < wkey ws j)
  mem : ∀ i, i ∈ S ↔ i < ws.length ∧ live ws i
theorem IsOrder.one {ws : List Int} {S T : List Nat} (h : IsOrder ws S) (k : IsOrder ws T) : S = T :=
  rise_ext (wkey ws) S T h.rise k.rise (fun x => (h.mem x).trans (k.mem x).symm)
/-- What stands at an end. -/
def IsEnd (ws : List Int) (e : Int) (z : Int) : Prop :=
  (z = -1 ∧ ∀ i, i < ws.length → ¬ live ws i) ∨ ∃ i : Nat, z = (i : Int) ∧ i < ws.length ∧ live ws i ∧ ∀ j, j < ws.length → live ws j → if e = 0 then wkey ws i ≤ wkey ws j else wkey ws j ≤ wkey ws i

/-- A list of numbers, as a call has it. -/
structure IsInts (w : World) (v : Value) (S : List Nat) : Prop where
  has : ∃ a cap, v = .slice a S.length cap ∧ S.length ≤ cap ∧ (0 < S.length → ∃ b off, a = some ⟨b, off, none⟩ ∧ ∀ i, i < S.length → w.cell? ⟨b, off + i, none⟩ = some (i64 (S.getD i 0 : Nat)))
theorem IsInts.later {w w' : World} {v : Value} {S : List Nat} (h : IsInts w v S) (k : Below w.heap.size w w') : IsInts w' v S := by
  obtain ⟨a, cap, h1, h2, h3⟩ := h.has
  exact ⟨a, cap, h1, h2, fun h0 => by obtain ⟨b, off, h4, h5⟩ := h3 h0; exact ⟨b, off, h4, fun i hi => (below_rule k _ (by rw [h5 i hi]; rfl)).trans (h5 i hi)⟩⟩

def encI (n : Nat) (i : Nat) : Value := i64 ((i % n : Nat) : Int)

set_option maxHeartbeats 1000000 in
theorem rightw_any (W : World) (v : Value) (hv : ∃ a n c, v = .slice a n c) : Calls Try.prog 57 #[v] W fun r w' => ∃ B, r = .returned (.func (.func 59) #[] #[.pointer (some ⟨B, 0, none⟩)]) ∧ W.heap.size ≤ B ∧ w'.cell? ⟨B, 0, none⟩ = some v ∧ Below W.heap.size W w' := by
  obtain ⟨a, n, c, rfl⟩ := hv
  go_enter Try.func57, Try.ntmps57
  go_wp2
  go_ret
  exact ⟨_, rfl, Nat.le_refl _, by go_simp, below_new (Below.refl _ _) _⟩

/-- What lies in other blocks than a row that is put anew is as it was. -/
theorem below_sort {W w : World} {enc : Nat → Value} {blk off m : Nat} {dk : Array Nat} {os : Array Obj} (h : Below W.heap.size W w) (hb : W.heap.size ≤ blk) : Below W.heap.size W (sortWorld enc w blk off m dk os) := by
  refine ⟨h.os, h.tape, h.output, ?_, fun k hk => ?_⟩
  · unfold sortWorld
    rw [size_grow, size_putRow]
    exact Nat.le_trans h.size (Nat.le_add_right _ _)
  · have hk2 : k < w.heap.size := Nat.lt_of_lt_of_le hk h.size
    unfold sortWorld
    rw [heap_grow_old _ _ (by rw [size_putRow]; exact hk2)]
    unfold putRow mapBlock
    show ((Sort.ahead w m).heap.modify blk _)[k]? = _
    rw [Array.getElem?_modify, if_neg (by omega)]
    exact h.block k hk
theorem sort_cell {w : World} {enc : Nat → Value} {blk off m : Nat} {dk : Array Nat} {os : Array Obj} {a : Addr} {x : Value} (h : w.cell? a = some x) (hb : a.block ≠ blk) : (sortWorld enc w blk off m dk os).cell? a = some x := by
  have hlt := World.block_lt_of_cell? w a h
  unfold sortWorld
  rw [cell?_grow _ _ _ (by rw [size_putRow]; exact hlt), cell?_putRow_other _ _ _ _ _ _ (.inl hb)]
  exact h

theorem cmp_lays (w : World) (ws : List Int) (hf : ∀ i, 0 ≤ ws.getD i 0 ∧ ws.getD i 0 ≤ 18446744073709551615) (B b off n cap blk size : Nat) (h0 : 0 < n) (hn : n ≤ 1000000) (hB : w.cell? ⟨B, 0, none⟩ = some (.slice (some ⟨b, off, none⟩) n cap)) (hc : ∀ i, i < n → w.cell? ⟨b, off + i, none⟩ = some (u64 (ws.getD i 0)))
    (n1 : B ≠ blk) (n2 : b ≠ blk) : CmpLays1 Try.prog 59 #[.pointer (some ⟨B, 0, none⟩)] (encI n) (cfI ws n) blk 0 size w := by
  intro m os dk _ i j
  have hi := Nat.mod_lt i h0
  have hj := Nat.mod_lt j h0
  refine (rightward_any _ B b off n cap (i % n) (j % n) (ws.getD (i % n) 0) (ws.getD (j % n) 0) hi hj hn ⟨sort_cell hB n1, sort_cell (hc _ hi) n2, sort_cell (hc _ hj) n2⟩ (hf _).1 (hf _).2 (hf _).1 (hf _).2).mono ?_
  rintro e w' ⟨rfl, hg⟩
  exact ⟨rfl, hg.grown⟩

/-- The row of places, as the library's contracts want it. -/
theorem holds_row {w : World} {base : Nat} {e : TypeId} {g k cap n : Nat} {S : List Nat} (h : w.ownsRow base e 1 (.slice (some ⟨g, 0, none⟩) k cap) k (S.map (fun i : Nat => i64 (i : Int)))) (hS : ∀ i ∈ S, i < n) : Holds (encI n) w g 0 S.toArray := by
  have hl := h.1
  rw [List.length_map, Nat.mul_one] at hl
  intro j hj
  rw [List.size_toArray] at hj
  refine ⟨?_, h.frozenAt _⟩
  rw [Nat.zero_add, h.cellAt j (by omega), List.getElem?_map, List.getElem?_eq_getElem hj]
  show some (i64 (S[j] : Int)) = some (encI n S.toArray[j]!)
  rw [getElem!_pos S.toArray j (by simpa using hj)]
  unfold encI
  rw [List.getElem_toArray, Nat.mod_eq_of_lt (hS _ (List.getElem_mem _))]

theorem list_of_array (d : Array Nat) (i : Nat) : d[i]! = d.toList.getD i 0 := by
  rw [List.getD_eq_getElem?_getD, Array.getElem?_toList]
  by_cases h : i < d.size
  · rw [getElem!_pos d i h, Array.getElem?_eq_getElem h]
    rfl
  · rw [getElem!_neg d i h, Array.getElem?_eq_none (by omega)]
    rfl

/-- A sorted one of the places is their order. -/
theorem order_of_sorted {ws : List Int} (hf : ∀ i, 0 ≤ ws.getD i 0 ∧ ws.getD i 0 ≤ 18446744073709551615) (h0 : 0 < ws.length) (hn : ws.length ≤ 1000000) (d' : Array Nat)
    (hp : PermIn 0 (upto ws ws.length).toArray.size (upto ws ws.length).toArray d') (hs : SortedIn (ltOf (cfI ws ws.length)) 0 (upto ws ws.length).toArray.size d') : IsOrder ws d'.toList ∧ d'.toList.length = (upto ws ws.length).length := by
  obtain ⟨h1, _, h3⟩ := hp
  have e1 : d'.extract 0 (upto ws ws.length).toArray.size = d' := by rw [← h1]; exact Array.extract_size
  have e2 : (upto ws ws.length).toArray.extract 0 (upto ws ws.length).toArray.size = (upto ws ws.length).toArray := Array.extract_size
  rw [e1, e2] at h3
  have hperm : d'.toList.Perm (upto ws ws.length) := h3
  have hmem : ∀ i, i ∈ d'.toList ↔ i < ws.length ∧ live ws i := fun i => hperm.mem_iff.trans mem_upto
  have hnd : d'.toList.Nodup := hperm.nodup_iff.2 (nodup_upto _ _)
  refine ⟨⟨?_, hmem⟩, by rw [hperm.length_eq]⟩
  rw [List.pairwise_iff_getElem]
  intro i j hi hj hij
  have hj2 : j < d'.size := by simpa using hj
  have hi2 : i < d'.size := by simpa using hi
  have q := hs i j (Nat.zero_le _) hij (by rw [← h1]; exact hj2)
  rw [getElem!_pos d' j hj2, getElem!_pos d' i hi2] at q
  have m1 := ((hmem d'.toList[i]).1 (List.getElem_mem _)).1
  have m2 := ((hmem d'.toList[j]).1 (List.getElem_mem _)).1
  rw [Array.getElem_toList] at m1 m2
  rw [ltI hf hn h0, Nat.mod_eq_of_lt m1, Nat.mod_eq_of_lt m2] at q
  have q2 : ¬ wkey ws d'[j] < wkey ws d'[i] := of_decide_eq_false q
  rw [Array.getElem_toList, Array.getElem_toList]
  rcases Int.lt_trichotomy (wkey ws d'[i]) (wkey ws d'[j]) with h | h | h
  · exact h
  · have h4 := wkey_inj hf (by omega) (by omega) h
    have h5 := List.pairwise_iff_getElem.1 hnd i j hi hj hij
    rw [Array.getElem_toList, Array.getElem_toList] at h5
    exact absurd h4 h5
  · exact absurd h q2

end Go.Proofs.Yticphioeipbnmaa
