/-
  PickOrders answers true for every list of words, and leaves all memory that was there as it was. No condition.
-/
import Derived.Test.YthncappmjdgmnaaPickRow
namespace Go.Proofs.Ythncappmjdgmnaa
open Go.RowKit
set_option linter.unusedVariables false
attribute [local go_sem ↓] fld0 fld1 fld3

set_option maxRecDepth 100000 in
set_option maxHeartbeats 4000000 in
theorem walk_PickOrders (a0 : Option Addr) (len0 cap0 : Nat) (w : World) (w0 : IsRows w [.inl .u64] a0 len0 cap0) :
    Calls Try.prog 3 #[.slice a0 len0 cap0] w fun e w' => e = .returned (.bool true) ∧ Below w.heap.size w w' := by
  obtain ⟨ws, rfl, hW⟩ := rows_words w0
  clear w0
  have HW := Lib.hid hW
  clear hW
  by_cases hbig : 100 < ws.length
  · have hbig' : (100 : Int) < (ws.length : Int) := by omega
    go_enter Try.func3, Try.ntmps3
    go_wp2_with fail
    refine (head8_any _).mono ?_
    rintro e w1 ⟨rfl, hb1⟩
    go_wp2_with fail
    go_ret
    exact ⟨rfl, hb1⟩
  have p0 : decide ((100 : Int) < (ws.length : Int)) = false := decide_eq_false (by omega)
  go_enter Try.func3, Try.ntmps3
  go_wp2_with fail
  refine (head8_any _).mono ?_
  rintro e w1 ⟨rfl, hb1⟩
  go_wp2_with fail
  refine (order_any _ a0 cap0 ws (HW.out.later hb1) (by omega)).mono ?_
  rintro r w2 ⟨v, S, rfl, ho, hi, hb2⟩
  have HB2 := Lib.hid (below_step hb1 hb2)
  clear hb1 hb2
  obtain ⟨A, c1, rfl, hc1, hi1⟩ := id hi.has
  go_wp2_with fail
  refine (row_any _ a0 cap0 ws (HW.out.later HB2.out) (by omega)).mono ?_
  rintro r w3 ⟨v', S', rfl, ho', hi', hb3⟩
  obtain rfl := ho.one ho'
  replace hi := hi.later hb3
  have HB3 := Lib.hid (below_step HB2.out hb3)
  clear hb3 HB2 hi1
  obtain ⟨A', c2, rfl, hc2, hi2⟩ := id hi'.has
  have hSl := ho.len
  have HI : Hid (0 < S.length → ∃ b off b' off', A = some ⟨b, off, none⟩ ∧ A' = some ⟨b', off', none⟩ ∧ ∀ i, i < S.length → w3.cell? ⟨b, off + i, none⟩ = some (i64 (S.getD i 0 : Nat)) ∧ w3.cell? ⟨b', off' + i, none⟩ = some (i64 (S.getD i 0 : Nat))) := fun h0 => by
    obtain ⟨x1, x2, hv, x3, x4⟩ := hi.has
    cases hv
    obtain ⟨b, off, rfl, h1⟩ := x4 h0
    obtain ⟨b', off', rfl, h2⟩ := hi2 h0
    exact ⟨b, off, b', off', rfl, rfl, fun i hi => ⟨h1 i hi, h2 i hi⟩⟩
  clear hi hi' hi2 ho ho'
  obtain ⟨wo, rfl⟩ : ∃ wo : World, wo = w3 := ⟨_, rfl⟩
  go_wp2_with fail
  go_loopw [22] (fun i wr => ∃ (e : Nat), e ≤ S.length ∧ i = .int .i64 e ∧ Hid (Below wo.heap.size wo wr)) (fun i _ => S.length - (intOf i).toNat)
  case atStart => exact ⟨0, by omega, rfl, Below.refl _ _⟩
  case round =>
    obtain ⟨e, he, rfl, HB⟩ := hrel
    rcases Nat.lt_or_ge e S.length with heN | heN
    · have heN' : (e : Int) < (S.length : Int) := by omega
      obtain ⟨b, off, b', off', rfl, rfl, hc⟩ := HI.out (by omega)
      obtain ⟨z1, z2⟩ := hc e heN
      replace z1 := (below_rule HB.out _ (by rw [z1]; rfl)).trans z1
      replace z2 := (below_rule HB.out _ (by rw [z2]; rfl)).trans z2
      clear hc
      go_wp2_with fail
      refine wp_region_seq ((0, true) :: (1, true) :: (2, true) :: (3, true) :: (4, true) :: (5, true) :: (6, true) :: (7, true) :: (8, true) :: []) (by kernel_rfl) (by kernel_rfl) (by kernel_rfl) (by decide) (fun _ _ _ _ _ h => h) (fun hHeld => ?_)
      repeat (first
        | (refine seq_take (v := ?_) rfl ?_ ?_ ?_; rotate_left 1; rfl; (focus (intro wS hSw; have hk := below_rule hSw; go_simp; first | done | with_reducible rfl)); (try simp only [Act.put, List.setIfInBounds_toArray, List.set_cons_zero, List.set_cons_succ]))
        | (refine seq_skip rfl ?_ ?_; rfl; (try simp only [Act.put, List.setIfInBounds_toArray, List.set_cons_zero, List.set_cons_succ]))
        | (refine seq_run rfl (fun K hK => ?_); go_simp; (try skip); (try go_wp2_with fail); refine hK.out _ _ ?_ ?_; (focus (first | exact below_step hHeld hb' | exact below_new hHeld _ | exact hHeld)); (try clear hb'); clear hHeld hK K; intro hHeld; (try simp only [Act.put, List.setIfInBounds_toArray, List.set_cons_zero, List.set_cons_succ])))
      first | refine seq_done ?_ | skip
      replace HB := Lib.hid (below_step HB.out hHeld)
      clear hHeld z1 z2
      go_wp2_with fail
      go_roundw
      case rel => exact ⟨e + 1, by omega, by go_num, HB⟩
      case measure => first | omega | (simp [intOf]; done) | (simp [intOf]; omega)
    · have heN' : ¬ (e : Int) < (S.length : Int) := by omega
      go_wp2_with fail
      go_ret
      exact ⟨rfl, below_step HB3.out HB.out⟩

end Go.Proofs.Ythncappmjdgmnaa
