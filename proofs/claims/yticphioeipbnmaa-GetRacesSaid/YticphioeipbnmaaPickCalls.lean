/-
  Contracts of package pick. No condition but that the words are numbers of 64 bits, and no more than a million.
-/
import Derived.Test.YticphioeipbnmaaMore
import Derived.Test.YticphioeipbnmaaPickRight
import Derived.Test.YticphioeipbnmaaPickLaid
import Derived.Test.YticphioeipbnmaaRows2
import Derived.Test.YticphioeipbnmaaWordMore
namespace Go.Proofs.Yticphioeipbnmaa
open Go.RowKit
set_option linter.unusedVariables false


/-- A list of words, as a call has it. -/
structure IsWs (w : World) (a : Option Addr) (ws : List Int) : Prop where
  has : 0 < ws.length → ∃ b off, a = some ⟨b, off, none⟩ ∧ ∀ i, i < ws.length → w.cell? ⟨b, off + i, none⟩ = some (u64 (ws.getD i 0))
  fit : ∀ i, 0 ≤ ws.getD i 0 ∧ ws.getD i 0 ≤ 18446744073709551615
theorem IsWs.later {w w' : World} {a : Option Addr} {ws : List Int} (h : IsWs w a ws) (k : Below w.heap.size w w') : IsWs w' a ws :=
  ⟨fun h0 => by obtain ⟨b, off, h1, h2⟩ := h.has h0; exact ⟨b, off, h1, fun i hi => (below_rule k _ (by rw [h2 i hi]; rfl)).trans (h2 i hi)⟩, h.fit⟩

/-- Something is in a place. -/
def live (ws : List Int) (i : Nat) : Prop := ws.getD i 0 % 4 = 1
instance (ws : List Int) (i : Nat) : Decidable (live ws i) := inferInstanceAs (Decidable (_ = _))
/-- The places, up to e, in which something is. -/
def upto (ws : List Int) (e : Nat) : List Nat := (List.range e).filter (fun i => decide (live ws i))
theorem upto_yes {ws : List Int} {e : Nat} (h : live ws e) : upto ws (e + 1) = upto ws e ++ [e] := by
  unfold upto
  rw [List.range_succ, List.filter_append, List.filter_cons_of_pos (by simpa using h)]
  rfl
theorem upto_no {ws : List Int} {e : Nat} (h : ¬ live ws e) : upto ws (e + 1) = upto ws e := by
  unfold upto
  rw [List.range_succ, List.filter_append, List.filter_cons_of_neg (by simpa using h)]
  simp
theorem upto_len (ws : List Int) (e : Nat) : (upto ws e).length ≤ e := by
  have := List.length_filter_le (fun i => decide (live ws i)) (List.range e)
  rwa [List.length_range] at this
theorem mem_upto {ws : List Int} {e i : Nat} : i ∈ upto ws e ↔ i < e ∧ live ws i := by simp [upto, List.mem_filter]
theorem nodup_upto (ws : List Int) (e : Nat) : (upto ws e).Nodup := List.nodup_range.filter _

theorem hold_nil (W : World) : Hold W W [tRow W.heap.size 3 1 (.slice none 0 0) 0 []] :=
  Hold.more (l := []) (Hold.nil (Below.refl _ _)) (Below.refl _ _) (tRow_ok _ _ _ _ _ _) ⟨rfl, .inl ⟨rfl, rfl⟩⟩ (fun q hq => by cases hq)

set_option maxRecDepth 100000 in
set_option maxHeartbeats 4000000 in
theorem live_any (W : World) (a : Option Addr) (cap : Nat) (ws : List Int) (hW : IsWs W a ws) (hn : ws.length ≤ 1000000) :
    Calls Try.prog 55 #[.slice a ws.length cap] W fun r w' => ∃ v, r = .returned v ∧ w'.ownsRow W.heap.size 3 1 v (upto ws ws.length).length ((upto ws ws.length).map (fun i : Nat => i64 (i : Int))) ∧ Below W.heap.size W w' := by
  have H0 := Lib.hid (hold_nil W)
  have HW := Lib.hid hW
  clear hW
  obtain ⟨len, hlen⟩ : ∃ len : Nat, ws.length = len := ⟨_, rfl⟩
  have Hlen := Lib.hid hlen
  rw [hlen] at hn ⊢
  clear hlen
  go_enter Try.func55, Try.ntmps55
  go_wp2_with fail
  obtain ⟨wo, rfl⟩ : ∃ wo : World, wo = W := ⟨_, rfl⟩
  go_loopw [3, 8] (fun vb j wr => ∃ (e : Nat), e ≤ len ∧ j = .int .i64 e ∧ Hid (Hold wo wr [tRow wo.heap.size 3 1 vb (upto ws e).length ((upto ws e).map (fun i : Nat => i64 (i : Int)))])) (fun _ j _ => len - (intOf j).toNat)
  case atStart => exact ⟨0, by omega, rfl, H0⟩
  case round =>
    clear H0
    obtain ⟨e, he, rfl, HH⟩ := hrel
    rcases Nat.lt_or_ge e len with heN | heN
    · have heN' : (e : Int) < (len : Int) := by omega
      obtain ⟨b, off, rfl, hc⟩ := HW.out.has (by have := Hlen.out; omega)
      have hx := (HH.out.below.cell (p := ⟨b, off + e, none⟩) (World.block_lt_of_cell? _ _ (hc e (by have := Hlen.out; omega)))).trans (hc e (by have := Hlen.out; omega))
      have hf := HW.out.fit e
      have hul := upto_len ws e
      obtain ⟨x, hxe⟩ : ∃ x : Int, ws.getD e 0 = x := ⟨_, rfl⟩
      rw [hxe] at hx hf
      obtain ⟨x0, x1⟩ := hf
      have HX := Lib.hid hxe
      clear hxe hc
      go_wp2_with fail
      refine (unpack_any x _ x0 x1).mono ?_
      rintro r w5 ⟨rfl, hb5⟩
      have HH5 := Lib.hid (HH.out.later hb5)
      clear hb5 HH hx
      have HRW : Hid (World.ownsRow _ _ _ _ _ _ _) := Hold.has HH5.out 0 _ rfl
      obtain ⟨A, cp, rfl⟩ := own_shape HRW.out
      clear HRW
      go_wp2_with fail
      change (?kk : Act → World → Prop) (Act.put _ _ (i64 (x % 4))) _
      by_cases h1 : x % 4 = 1
      · have h1' : (x % 4 == 1) = true := by simp [h1]
        have HL : Hid (live ws e) := by show ws.getD e 0 % 4 = 1; rw [HX.out]; exact h1
        clear h1
        go_wp2_with (at_builtin; refine list_append_grew rfl _ _ 58 rfl wo.heap.size 3 _ 1 8 elem_i64 (.slice A (upto ws e).length cp) (upto ws e).length ((upto ws e).map (fun i : Nat => i64 (i : Int))) rfl (Hold.has (Hold.later HH5.out (below_new (Below.refl _ _) (.cells #[.int .i64 e] 3))) 0 _ rfl) (some ⟨_, 0, none⟩) 1 1 [.int .i64 e] rfl (src_list w5 [.int .i64 e] 3 1 1 rfl (one_int _ _)) (by unfold maxLen; omega) (by omega) ((Hold.later HH5.out (below_new (Below.refl _ _) _)).size) ?_; intro vb' w8 hG; have HH8 := Lib.hid ((Hold.later HH5.out (below_new (Below.refl _ _) (.cells #[.int .i64 e] 3))).append 0 rfl rfl hG); clear hG)
        go_roundw
        case rel => exact ⟨e + 1, by omega, by go_num, by rw [upto_yes HL.out, List.length_append, List.map_append]; exact HH8⟩
        case measure => first | omega | (simp [intOf]; done) | (simp [intOf]; omega)
      · have h1' : (x % 4 == 1) = false := by simp [h1]
        have HL : Hid (¬ live ws e) := by show ¬ (ws.getD e 0 % 4 = 1); rw [HX.out]; exact h1
        clear h1
        go_wp2_with fail
        go_roundw
        case rel => exact ⟨e + 1, by omega, by go_num, by rw [upto_no HL.out]; exact HH5⟩
        case measure => first | omega | (simp [intOf]; done) | (simp [intOf]; omega)
    · have heN' : ¬ (e : Int) < (len : Int) := by omega
      obtain rfl : e = len := by omega
      have HRW : Hid (World.ownsRow _ _ _ _ _ _ _) := Hold.has HH.out 0 _ rfl
      obtain ⟨A, cp, rfl⟩ := own_shape HRW.out
      go_wp2_with fail
      go_ret
      exact ⟨_, rfl, HRW.out, HH.out.below⟩

end Go.Proofs.Yticphioeipbnmaa
