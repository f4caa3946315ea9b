/-
  TaskPairs answers true for all lists and numbers, and leaves all memory that was there as it was. No condition.
-/
import Derived.Test.YtemaghebpnjmoaaTaskOne
import Derived.Test.YtemaghebpnjmoaaTaskPairsPure
namespace Go.Proofs.Ytemaghebpnjmoaa
open Go.RowKit
set_option linter.unusedVariables false

theorem field_ok (W : World) (ok : Bool) (v lo hi : Int) : (Instr.field 47 (replyV ok v lo hi) 0).run Try.prog W = .ok (.bool ok) W := by kernel_rfl
theorem field_value (W : World) (ok : Bool) (v lo hi : Int) : (Instr.field 47 (replyV ok v lo hi) 1).run Try.prog W = .ok (u64 v) W := by kernel_rfl
theorem field_stamp (W : World) (ok : Bool) (v lo hi : Int) : (Instr.field 47 (replyV ok v lo hi) 2).run Try.prog W = .ok (st lo hi) W := by kernel_rfl
/-- What a list of numbers holds. -/
def IsNs (w : World) (a : Option Addr) (len cap : Nat) (tb off : Nat) (X : Nat → Int) : Prop := ∀ i, i < len → a = some ⟨tb, off, none⟩ ∧ len ≤ cap ∧ tb < w.heap.size ∧ w.cell? ⟨tb, off + i, none⟩ = some (u64 (X i)) ∧ 0 ≤ X i ∧ X i ≤ 18446744073709551615
theorem rows_ns {w : World} {a0 : Option Addr} {len cap : Nat} (h : IsRows w [.inl .u64] a0 len cap) : ∃ b off, ∃ X : Nat → Int, IsNs w a0 len cap b off X := by
  obtain ⟨h1, h2, h3, h4, h5⟩ := h
  rcases Nat.eq_zero_or_pos len with h0 | hl
  · exact ⟨0, 0, fun _ => 0, fun i hi => by omega⟩
  obtain ⟨b, off, rfl⟩ := h4 hl
  have hx : ∀ i, ∃ x : Int, i < len → w.cell? ⟨b, off + i, none⟩ = some (u64 x) ∧ 0 ≤ x ∧ x ≤ 18446744073709551615 := by
    intro i
    by_cases hi : i < len
    · obtain ⟨cs, hf, hc⟩ := h5 b off rfl i hi
      obtain ⟨c0, l0, rfl, r0, f0⟩ := fit_cons hf
      obtain ⟨x0, rfl, g0⟩ := r0
      have := hc 0 _ rfl
      simp only [List.length_cons, List.length_nil, Nat.zero_add, Nat.mul_one, Nat.add_zero] at this
      exact ⟨x0, fun _ => ⟨this, (bounds_u64 g0).1, (bounds_u64 g0).2⟩⟩
    · exact ⟨0, fun h => absurd h hi⟩
  obtain ⟨X, hX⟩ := Classical.axiomOfChoice hx
  exact ⟨b, off, X, fun i hi => ⟨rfl, h1, World.block_lt_of_cell? w ⟨b, off + i, none⟩ (hX i hi).1, hX i hi⟩⟩
theorem right_yes (a b : Int) (w : World) (h0 : 0 ≤ a) (h1 : a ≤ b) (h2 : b < 16777215) :
    Calls Try.prog 27 #[st a b] w fun e w' => e = .returned (.bool true) ∧ Below w.heap.size w w' := by
  have h := right_any a b w
  rw [show rightB a b = true by unfold rightB; simp; omega] at h
  exact h
theorem Wk.ge_is {T : Wk} (h : T.take = true) : ∃ k, T = .ge k := by
  cases T with
  | pu k => cases h
  | ge k => exact ⟨k, rfl⟩
section
variable {W w : World} {p c b b' bp b1 b2 : Nat} {C : List Int} {L : List Ev} {T : Wk} {kd e x s kd' e' x' s' : Int} {k : Pu}
/-- The put that stands beside. -/
theorem TsH.putof (h : TsH W w p c C L b kd e x s T [tPu W.heap.size bp b1 b2 k, tTask W b' kd' e' x' s' (wPut bp)]) : ∃ v, PuHold W w p c v C L bp b1 b2 k [tTask W b' kd' e' x' s' (wPut bp)] := by
  have gen : ∀ {a y z A B : Thing}, Hold W w [a, y, z, A, B] → Hold W w [a, A, B] := fun h =>
    h.sel (fun i => if i = 0 then 0 else i + 2) (fun i A hi => by
      match i with
      | 0 => exact hi
      | 1 => exact hi
      | 2 => exact hi
      | i + 3 => simp at hi) (fun i j hi hj he => by
      split at he <;> split at he <;> omega)
  cases T with
  | pu k' =>
    obtain ⟨v, bp', b1', b2', h⟩ := h
    exact ⟨v, gen h⟩
  | ge k' =>
    obtain ⟨bg, v, bs, gs, bt, h⟩ := h
    exact ⟨v, gen h⟩
/-- The put first, the get first. -/
theorem TsH.putfirst {g : Ge} (h : TsH W w p c C L b kd e x s (.ge g) [tPu W.heap.size bp b1 b2 k, tTask W b' kd' e' x' s' (wPut bp)]) : ∃ bg bs gs bt, TsH W w p c C L b' kd' e' x' s' (.pu k) [tGe W.heap.size bg bs gs bt g, tTask W b kd e x s (wGet bg)] := by
  obtain ⟨bg, v, bs, gs, bt, h⟩ := h
  refine ⟨bg, bs, gs, bt, v, bp, b1, b2, Hold.sel h (fun i => if i = 0 then 0 else if i ≤ 2 then i + 2 else i - 2) (fun i A hi => ?_) (fun i j hi hj he => ?_)⟩
  · match i with
    | 0 => exact hi
    | 1 => exact hi
    | 2 => exact hi
    | 3 => exact hi
    | 4 => exact hi
    | i + 5 => simp at hi
  · simp only [List.length_cons, List.length_nil] at hi hj
    split at he <;> split at he <;> (try split at he) <;> (try split at he) <;> omega
theorem TsH.getfirst {g : Ge} {bg bs gs : Nat} {bt : Option Nat} (h : TsH W w p c C L b' kd' e' x' s' (.pu k) [tGe W.heap.size bg bs gs bt g, tTask W b kd e x s (wGet bg)]) : ∃ bp b1 b2, TsH W w p c C L b kd e x s (.ge g) [tPu W.heap.size bp b1 b2 k, tTask W b' kd' e' x' s' (wPut bp)] := by
  obtain ⟨v, bp, b1, b2, h⟩ := h
  refine ⟨bp, b1, b2, bg, v, bs, gs, bt, Hold.sel h (fun i => if i = 0 then 0 else if i ≤ 2 then i + 2 else i - 2) (fun i A hi => ?_) (fun i j hi hj he => ?_)⟩
  · match i with
    | 0 => exact hi
    | 1 => exact hi
    | 2 => exact hi
    | 3 => exact hi
    | 4 => exact hi
    | i + 5 => simp at hi
  · simp only [List.length_cons, List.length_nil] at hi hj
    split at he <;> split at he <;> (try split at he) <;> (try split at he) <;> omega
theorem TsH.cells {R : List Thing} (h : TsH W w p c C L b kd e x s T R) : ∃ v, Hold W w [tMem W.heap.size p c v C L] := by
  cases T with
  | pu k' =>
    obtain ⟨v, bp', b1', b2', h⟩ := h
    exact ⟨v, Hold.less (l := [_]) h⟩
  | ge k' =>
    obtain ⟨bg, v, bs, gs, bt, h⟩ := h
    exact ⟨v, Hold.less (l := [_]) h⟩
end

set_option maxRecDepth 100000 in
set_option maxHeartbeats 8000000 in
theorem walk_TaskPairs (a0 : Int) (a1 : Int) (a2 : Int) (a3 : Int) (a4 : Bool) (a5 : Option Addr) (len5 cap5 : Nat) (w : World) (w0 : (Lit.int .i64 a0).wf = true) (w1 : (Lit.int .i64 a1).wf = true) (w2 : (Lit.int .i64 a2).wf = true) (w3 : (Lit.int .i64 a3).wf = true) (w5 : IsRows w [.inl .u64] a5 len5 cap5) :
    Calls Try.prog 5 #[.int .i64 a0, .int .i64 a1, .int .i64 a2, .int .i64 a3, .bool a4, .slice a5 len5 cap5] w fun e w' => e = .returned (.bool true) ∧ Below w.heap.size w w' := by
  clear w0 w1 w2 w3
  rcases Nat.lt_or_ge 12 len5 with hbig | hs5
  · have hbig' : (12 : Int) < (len5 : Int) := by omega
    clear w5
    go_enter Try.func5, Try.ntmps5
    go_wp2_with fail
    refine (head12_any _).mono ?_
    rintro e w1 ⟨rfl, hb1⟩
    go_wp2_with fail
    go_ret
    exact ⟨rfl, hb1⟩
  have p5 : decide ((12 : Int) < (len5 : Int)) = false := decide_eq_false (by omega)
  obtain ⟨ub, uff, Y, hY⟩ := rows_ns w5
  have HY : Hid (IsNs w a5 len5 cap5 ub uff Y) := hY
  obtain ⟨uw, huw, lw, gw⟩ : ∃ u, bits .and .i64 a2 65535 = u ∧ 0 ≤ u ∧ u ≤ 65535 := ⟨_, and_ffff a2, by omega, by omega⟩
  obtain ⟨ux, hux, lx, gx⟩ : ∃ u, bits .and .i64 a3 65535 = u ∧ 0 ≤ u ∧ u ≤ 65535 := ⟨_, and_ffff a3, by omega, by omega⟩
  clear w5 hY
  go_enter Try.func5, Try.ntmps5
  go_wp2_with fail
  refine (head12_any _).mono ?_
  rintro e w1 ⟨rfl, hb1⟩
  go_wp2_with fail
  refine (conf4_any _ _ _ _ _).mono ?_
  rintro e w2 ⟨t, s, so, d, rfl, t1, t4, s1, s4, o0, o4, d0, d3, hb2⟩
  have ht0 : (t == 0) = false := by simp; omega
  have hB2 := Lib.hid (below_step hb1 hb2)
  clear hb1 hb2
  obtain ⟨N, hNe, hlay, hN1, hN2⟩ := lay44 t1 t4 s1 s4
  clear hNe
  go_wp2_with fail
  have hw0 := Int.emod_nonneg uw (show t ≠ 0 by omega)
  have hw1 := Int.emod_lt_of_pos uw (show 0 < t by omega)
  have hx0 := Int.emod_nonneg ux (show t ≠ 0 by omega)
  have hx1 := Int.emod_lt_of_pos ux (show 0 < t by omega)
  generalize uw % t = wa at hw0 hw1 ⊢
  generalize ux % t = wb at hx0 hx1 ⊢
  clear huw lw gw hux lx gx
  have hA := AtC.made w2 t s so d
  have hB3 := below_new (Below.refl w2.heap.size w2) (.cells #[.int .i64 t, .int .i64 s, .int .i64 so, .int .i64 d] 32)
  have hs3 : w2.heap.size < (w2.alloc (.cells #[.int .i64 t, .int .i64 s, .int .i64 so, .int .i64 d] 32)).heap.size := by simp
  have HA := Lib.hid hA
  have HB := Lib.hid (below_step hB2.out hB3)
  have Hs := Lib.hid hs3
  clear hA hB3 hs3 hB2
  generalize w2.alloc (.cells #[.int .i64 t, .int .i64 s, .int .i64 so, .int .i64 d] 32) = W at HA HB Hs ⊢
  generalize w2.heap.size = cb at HA Hs ⊢
  clear w2 w1
  obtain ⟨M, hM⟩ : ∃ M : Nat, 2 * (N : Int) + 2 * t = (M : Int) := ⟨(2 * (N : Int) + 2 * t).toNat, by omega⟩
  obtain ⟨nb, hnb⟩ : ∃ nb : Nat, (nb : Int) = 2 * N + t := ⟨(2 * N + t).toNat, by omega⟩
  obtain ⟨h0, hh0⟩ : ∃ hz : Nat, (hz : Int) = 2 * N := ⟨2 * N, by omega⟩
  obtain ⟨hw, hhw⟩ : ∃ hz : Nat, (hz : Int) = 2 * N + wb := ⟨(2 * N + wb).toNat, by omega⟩
  obtain ⟨m, hm, hmN⟩ := who_s hlay hw0 hw1
  obtain ⟨m2, hm2, hmN2⟩ := who_s hlay hx0 hx1
  have HM := Lib.hid hM
  have Hnb := Lib.hid hnb
  have Hh0 := Lib.hid hh0
  have Hhw := Lib.hid hhw
  have Hm := Lib.hid hm
  have Hm2 := Lib.hid hm2
  refine (ccells_any t s so d N _ hlay).mono ?_
  rintro r w1 ⟨rfl, hb1⟩
  rw [hM]
  clear hM hm hm2
  go_wp2_with fail
  refine (new_nat W.heap.size M M _ hb1.size (by have := HM.out; omega) (.inl rfl)).mono ?_
  rintro r w2 ⟨p, c, rfl, hM2, hb2, hp, hc⟩
  have HH0 := Lib.hid (Hold.cells hb1 hM2 hb2 hp hc)
  have hMe : M = nb + t.toNat := by have := HM.out; omega
  have HF0 : Hid (Calm (List.replicate M 0) t s so d wa N m nb h0 ((0 : Nat) : Int) ((0 : Nat) : Int) (27 * ((0 : Nat) : Int)) (-1)) := by rw [hMe]; exact Calm.start hnb t1
  clear hM2 hb2 hp hc hb1 hnb hh0 hhw hMe
  go_wp2_with fail
  go_loopw [15, 47] (fun nw i wr => ∃ (e now : Nat) (v : Value) (C : List Int) (L : List Ev) (h : Int), e ≤ len5 ∧ Hid (now = 200 * e) ∧ nw = .int .i64 now ∧ i = .int .i64 e ∧ Hid (Hold W wr [tMem W.heap.size p c v C L]) ∧ Hid (Calm C t s so d wa N m nb h0 e now (27 * e) h) ∧ Hid (L.length ≤ 200 * e)) (fun _ i _ => 100 - (intOf i).toNat)
  case atStart => exact ⟨0, 0, _, _, _, _, by omega, (by show 0 = 200 * 0; rfl), rfl, rfl, HH0, HF0, Nat.zero_le _⟩
  case round =>
    clear HH0 HF0
    obtain ⟨e, now, v, C, L, h, he, Hnow, rfl, rfl, HH, HF, HL⟩ := hrel
    have hnowb : now ≤ 2400 := by have := Hnow.out; omega
    obtain ⟨ee, hee, hee2⟩ : ∃ e : Int, kdI a4 = e ∧ (e = 0 ∨ e = 1) := ⟨_, rfl, by cases a4 <;> simp⟩
    have Hee := Lib.hid hee
    clear hee
    rcases Nat.lt_or_ge e len5 with hlt | hge
    · obtain ⟨rfl, hcap, htb, hx, V0, V1⟩ := HY.out e hlt
      have hlt' : (e : Int) < (len5 : Int) := by omega
      have hwW : Below w.heap.size w wr := below_step' HB.out (Hold.below HH.out) HB.out.size
      replace hx := (hwW.cell (p := ⟨ub, _, none⟩) htb).trans hx
      obtain ⟨V, hV⟩ : ∃ V, Y e = V := ⟨_, rfl⟩
      rw [hV] at hx V0 V1
      clear hV hwW
      go_wp2_with fail
      clear hx
      refine wp_region_seqS ((fun w' => AtC w' cb t s so d)) ((0, true) :: (1, true) :: (2, true) :: (3, true) :: (4, false) :: (5, false) :: (6, true) :: []) (by kernel_rfl) (by kernel_rfl) (by kernel_rfl) (by decide) (fun _ _ _ _ _ h => h) ((HA.out.later (Hold.below (Hold.drew HH.out)) Hs.out)) ?_
      replace HH := Lib.hid (Hold.drew HH.out)
      repeat (first | (refine seq_take (v := ?_) rfl ?_ ?_ ?_; rotate_left 1; rfl; (focus (intro wS hSw; obtain ⟨k0, k1, k2, k3⟩ := hSw; go_simp; first | done | with_reducible rfl)); (try simp only [Act.put, List.setIfInBounds_toArray, List.set_cons_zero, List.set_cons_succ])) | (refine seq_skip rfl ?_ ?_; rfl; (try simp only [Act.put, List.setIfInBounds_toArray, List.set_cons_zero, List.set_cons_succ])))
      refine seq_run rfl (fun K hK => ?_)
      go_simp
      go_at_call 11
      refine (make_at false a4 V 0 0 ee _ rfl Hee.out).mono ?_
      rintro r w7 ⟨rfl, hb⟩
      (try go_wp2_with fail)
      replace HH := Lib.hid (Hold.later HH.out hb)
      clear hb
      refine hK.out _ _ ((HA.out.later (Hold.below HH.out) Hs.out)) (fun _ => ?_)
      (try simp only [Act.put, List.setIfInBounds_toArray, List.set_cons_zero, List.set_cons_succ])
      clear hK K
      repeat (first | (refine seq_take (v := ?_) rfl ?_ ?_ ?_; rotate_left 1; rfl; (focus (intro wS hSw; obtain ⟨k0, k1, k2, k3⟩ := hSw; go_simp; first | done | with_reducible rfl)); (try simp only [Act.put, List.setIfInBounds_toArray, List.set_cons_zero, List.set_cons_succ])) | (refine seq_skip rfl ?_ ?_; rfl; (try simp only [Act.put, List.setIfInBounds_toArray, List.set_cons_zero, List.set_cons_succ])))
      refine seq_run rfl (fun K hK => ?_)
      go_simp
      go_at_call 12
      refine (TsH.begun (who := wa) (m := (m : Int)) false rfl HH.out hlay hw0 hw1 Hm.out (by omega) hmN hee2).mono ?_
      rintro r w8 ⟨tb, rfl, hT8⟩
      (try go_wp2_with fail)
      have HH1 : Hid (TsH W w8 p c C L tb 0 ee V 0 (.pu (pu0 t s so d wa ee V m)) []) := hT8
      clear hT8 HH
      refine hK.out _ _ ((HA.out.later HH1.out.below Hs.out)) (fun _ => ?_)
      (try simp only [Act.put, List.setIfInBounds_toArray, List.set_cons_zero, List.set_cons_succ])
      clear hK K
      repeat (first | (refine seq_take (v := ?_) rfl ?_ ?_ ?_; rotate_left 1; rfl; (focus (intro wS hSw; obtain ⟨k0, k1, k2, k3⟩ := hSw; go_simp; first | done | with_reducible rfl)); (try simp only [Act.put, List.setIfInBounds_toArray, List.set_cons_zero, List.set_cons_succ])) | (refine seq_skip rfl ?_ ?_; rfl; (try simp only [Act.put, List.setIfInBounds_toArray, List.set_cons_zero, List.set_cons_succ])))
      refine seq_done ?_
      obtain ⟨v1, bp, b1, b2, hh⟩ := HH1.out
      have HH2 : Hid (Hold W w8 [tMem W.heap.size p c v1 C L, tPu W.heap.size bp b1 b2 (pu0 t s so d wa ee V m), tTask W tb 0 ee V 0 (wPut bp)]) := hh
      clear hh HH1
      go_wp2_with fail
      refine wp_region_seqS ((fun w' => AtC w' cb t s so d)) ((0, true) :: (1, true) :: (2, true) :: (3, true) :: (4, false) :: (5, false) :: (6, true) :: []) (by kernel_rfl) (by kernel_rfl) (by kernel_rfl) (by decide) (fun _ _ _ _ _ h => h) ((HA.out.later (Hold.below (Hold.drew HH2.out)) Hs.out)) ?_
      replace HH2 := Lib.hid (Hold.drew HH2.out)
      repeat (first | (refine seq_take (v := ?_) rfl ?_ ?_ ?_; rotate_left 1; rfl; (focus (intro wS hSw; obtain ⟨k0, k1, k2, k3⟩ := hSw; go_simp; first | done | with_reducible rfl)); (try simp only [Act.put, List.setIfInBounds_toArray, List.set_cons_zero, List.set_cons_succ])) | (refine seq_skip rfl ?_ ?_; rfl; (try simp only [Act.put, List.setIfInBounds_toArray, List.set_cons_zero, List.set_cons_succ])))
      refine seq_run rfl (fun K hK => ?_)
      go_simp
      go_at_call 11
      refine (make_at true a4 0 e 1 ee _ rfl Hee.out).mono ?_
      rintro r w7 ⟨rfl, hb⟩
      (try go_wp2_with fail)
      replace HH2 := Lib.hid (Hold.later HH2.out hb)
      clear hb
      refine hK.out _ _ ((HA.out.later (Hold.below HH2.out) Hs.out)) (fun _ => ?_)
      (try simp only [Act.put, List.setIfInBounds_toArray, List.set_cons_zero, List.set_cons_succ])
      clear hK K
      repeat (first | (refine seq_take (v := ?_) rfl ?_ ?_ ?_; rotate_left 1; rfl; (focus (intro wS hSw; obtain ⟨k0, k1, k2, k3⟩ := hSw; go_simp; first | done | with_reducible rfl)); (try simp only [Act.put, List.setIfInBounds_toArray, List.set_cons_zero, List.set_cons_succ])) | (refine seq_skip rfl ?_ ?_; rfl; (try simp only [Act.put, List.setIfInBounds_toArray, List.set_cons_zero, List.set_cons_succ])))
      refine seq_run rfl (fun K hK => ?_)
      go_simp
      go_at_call 12
      refine (TsH.begun (who := wb) (m := (m2 : Int)) true rfl HH2.out hlay hx0 hx1 Hm2.out (by omega) hmN2 hee2).mono ?_
      rintro r w8 ⟨tg, rfl, hT8⟩
      (try go_wp2_with fail)
      have HH3 : Hid (TsH W w8 p c C L tg 1 ee 0 e (.ge (ge0 t s so d wb ee e N)) [tPu W.heap.size bp b1 b2 (pu0 t s so d wa ee V m), tTask W tb 0 ee V 0 (wPut bp)]) := hT8
      clear hT8 HH2
      refine hK.out _ _ ((HA.out.later HH3.out.below Hs.out)) (fun _ => ?_)
      (try simp only [Act.put, List.setIfInBounds_toArray, List.set_cons_zero, List.set_cons_succ])
      clear hK K
      repeat (first | (refine seq_take (v := ?_) rfl ?_ ?_ ?_; rotate_left 1; rfl; (focus (intro wS hSw; obtain ⟨k0, k1, k2, k3⟩ := hSw; go_simp; first | done | with_reducible rfl)); (try simp only [Act.put, List.setIfInBounds_toArray, List.set_cons_zero, List.set_cons_succ])) | (refine seq_skip rfl ?_ ?_; rfl; (try simp only [Act.put, List.setIfInBounds_toArray, List.set_cons_zero, List.set_cons_succ])))
      refine seq_done ?_
      obtain ⟨bg, bs, gs, bt, hpf⟩ := HH3.out.putfirst
      have HH1 := Lib.hid hpf
      clear hpf HH3
      have HU := Lib.hid (HF.out.usable (by omega) Hh0.out Hnb.out)
      have hok : (pu0 t s so d wa ee V m).Ok N m nb h0 C := pu0_ok hlay Hh0.out Hnb.out HF.out.len hw0 hw1 Hm.out (by omega) hmN o0 o4 d0 (by omega) (by omega) (by omega) V0 V1
      have HX0 : Hid (PX (pu0 t s so d wa ee V m) C C N m nb h0 t s V (now : Int) (27 * e) h 0) := PX.start HF.out hok Hm.out (by omega) (by
        rw [pu0_rem]
        obtain ⟨Q, q, h1, h2, h3, h4, h5, h6⟩ := pmost_le (so := so) t1 t4 s1 s4 d0 d3
        omega)
      have HS0 : Hid ((pu0 t s so d wa ee V m).Same (pu0 t s so d wa ee V m)) := Pu.Same.refl _
      have HLe : Hid (L.length ≤ 200 * e + 0) := HL.out
      have Hnw : Hid (now = now + 0) := rfl
      clear hok
      obtain ⟨P, hP, hPN⟩ : ∃ P : Pl, P = ⟨N, m, nb, h0, hw⟩ ∧ P.N = N := ⟨_, rfl, rfl⟩
      have HPE := Lib.hid hP
      clear hP
      go_wp2_with fail
      go_loopw [15, 20] (fun nw i wr => ∃ (q now2 : Nat) (C' : List Int) (L' : List Ev) (k : Pu), q ≤ 100 ∧ nw = .int .i64 now2 ∧ i = .int .i64 q ∧ Hid (now2 = now + q) ∧ Hid (TsH W wr p c C' L' tb 0 ee V 0 (.pu k) [tGe W.heap.size bg bs gs bt (ge0 t s so d wb ee e N), tTask W tg 1 ee 0 e (wGet bg)]) ∧ Hid (PX k C' C N m nb h0 t s V (now : Int) (27 * e) h q) ∧ Hid ((pu0 t s so d wa ee V m).Same k) ∧ Hid (L'.length ≤ 200 * e + q)) (fun _ i _ => 100 - (intOf i).toNat)
      case atStart => exact ⟨0, now, _, _, _, by omega, rfl, rfl, Hnw, HH1, HX0, HS0, HLe⟩
      case round =>
        clear HH1 HX0 HS0 HLe Hnw HL
        obtain ⟨q, now2, C', L', k, hq, rfl, rfl, Hnw, HH, HX, HS, HL⟩ := hrel
        rcases Nat.lt_or_ge q 100 with hq1 | hq1
        · have hq1' : (q : Int) < 100 := by omega
          have hn2 : now2 ≤ 3000 := by have := Hnw.out; omega
          as_aux_lemma =>
            have HOK : Hid ((Wk.pu k).Ok ⟨N, m, nb, h0, hw⟩ C') := HX.out.ok
            have HFT := Lib.hid HH.out.fit
            go_wp2_with fail
            refine (HH.out.step (P := ⟨N, m, nb, h0, hw⟩) (now := (now2 : Int)) HOK.out (by omega) (by have := HL.out; omega)).mono ?_
            rintro r wx ⟨z, hz, rfl, hH⟩
            have HH2 : Hid (TsH W wx p c (k.cells N nb C' (now2 : Int)) (L' ++ k.ev N nb h0 C' (now2 : Int)) tb 0 ee V 0 (.pu (k.step m nb h0 C' (now2 : Int))) [tGe W.heap.size bg bs gs bt (ge0 t s so d wb ee e N), tTask W tg 1 ee 0 e (wGet bg)]) := hH
            have HX2 : Hid (PX (k.step m nb h0 C' (now2 : Int)) (k.cells N nb C' (now2 : Int)) C N m nb h0 t s V (now : Int) (27 * e) h (q + 1)) := by
              have h1 := HX.out.step HU.out s1 (by omega) (by omega) (by omega) (by omega) (fun j => (HFT.out j).1)
              rw [show ((now2 : Nat) : Int) = (now : Int) + (q : Int) by have := Hnw.out; omega]
              exact h1
            have HS2 := Lib.hid (HS.out.trans (Pu.step_same k m nb h0 C' (now2 : Int)))
            have HLV := Lib.hid (Pu.ev_le k N nb h0 C' (now2 : Int))
            clear hH hz HH HX HS HOK HFT
            go_wp2_with fail
            go_roundw
            case rel => exact ⟨q + 1, now2 + 1, _, _, _, by omega, by go_num, by go_num, by have := Hnw.out; show _ = _; omega, HH2, HX2, HS2, by have := HL.out; have := HLV.out; show _ ≤ _; rw [List.length_append]; omega⟩
            case measure => first | omega | (simp [intOf]; done) | (simp [intOf]; omega)
        · have hq1' : ¬ (q : Int) < 100 := by omega
          have hn2 : now2 ≤ 2500 := by have := Hnw.out; omega
          obtain ⟨hp1, hl0, hl1, hl2, hin⟩ := HX.out.done (by omega) HF.out HS.out (by omega) (by omega) Hh0.out Hnb.out t1 (by omega) ((now2 : Nat) : Int) (by have := Hnw.out; omega)
          have HIN := Lib.hid hin
          have HP1 := Lib.hid hp1
          have HRP : Hid (k.reply = replyV true 0 k.tk.lo k.tk.hi) := if_pos hp1
          obtain ⟨lo, hlo⟩ : ∃ y, k.tk.lo = y := ⟨_, rfl⟩
          obtain ⟨hi, hhi⟩ : ∃ y, k.tk.hi = y := ⟨_, rfl⟩
          rw [hlo, hhi] at HRP
          rw [hlo] at hl0 hl1
          rw [hhi] at hl1 hl2 HIN
          obtain ⟨bp, b1, b2, hh⟩ := HH.out.getfirst
          have HH2 := Lib.hid hh
          clear hh hin hp1 HH HX HS hlo hhi HU HF
          have HA0 : Hid (TsA (.ge (ge0 t s so d wb ee e N)) P C' C' 0 ee) := by
            have h1 : TsA (wk0 t s so d wb true ee 0 e m2 N) ⟨N, m2, nb, h0, hw⟩ C' C' 0 ee := TsA.start true hlay (by have := HIN.out.len; have := Hnb.out; omega) t4 s4 Hh0.out Hhw.out Hnb.out hx0 hx1 Hm2.out (by omega) hmN2 o0 o4 d0 d3 hee2 (by decide) (by decide)
            rw [HPE.out]
            exact h1
          have HT0 : Hid ((Wk.ge (ge0 t s so d wb ee e N)).take = true) := rfl
          have HLe : Hid (L'.length ≤ 200 * e + 100 + 0) := by have := HL.out; show _ ≤ _; omega
          have Hnw0 : Hid (now2 = now2 + 0) := rfl
          generalize Wk.ge (ge0 t s so d wb ee e N) = T0 at HH2 HA0 HT0
          clear HL
          go_wp2_with fail
          go_loopw [15, 21] (fun nw i wr => ∃ (q now3 : Nat) (C2 : List Int) (L2 : List Ev) (T : Wk), q ≤ 100 ∧ nw = .int .i64 now3 ∧ i = .int .i64 q ∧ Hid (now3 = now2 + q) ∧ Hid (TsH W wr p c C2 L2 tg 1 ee 0 e T [tPu W.heap.size bp b1 b2 k, tTask W tb 0 ee V 0 (wPut bp)]) ∧ Hid (TsA T P C2 C' q ee) ∧ Hid (T.take = true) ∧ Hid (L2.length ≤ 200 * e + 100 + q)) (fun _ i _ => 100 - (intOf i).toNat)
          case atStart => exact ⟨0, now2, _, _, _, by omega, rfl, rfl, Hnw0, HH2, HA0, HT0, HLe⟩
          case round =>
            clear HH2 HA0 HT0 HLe Hnw0
            obtain ⟨q, now3, C2, L2, T, hq, rfl, rfl, Hnw3, HH, HT, HTK, HL⟩ := hrel
            rcases Nat.lt_or_ge q 100 with hq1 | hq1
            · have hq1' : (q : Int) < 100 := by omega
              have hn3 : now3 ≤ 2600 := by have := Hnw3.out; omega
              as_aux_lemma =>
                have HFT := Lib.hid HH.out.fit
                go_wp2_with fail
                refine (HH.out.step (P := P) (now := (now3 : Int)) HT.out.ok (by omega) (by have := HL.out; omega)).mono ?_
                rintro r wx ⟨z, hz, rfl, hH⟩
                have HH2 := Lib.hid hH
                have HT2 := Lib.hid (HT.out.step (now := (now3 : Int)) hz (by omega) HFT.out)
                have HTK2 : Hid ((T.step P C2 (now3 : Int) z).take = true) := Wk.take_step.trans HTK.out
                have HLV := Lib.hid (Wk.ev_le (T := T) (P := P) (C := C2) (now := (now3 : Int)))
                clear hH hz HH HT HTK HFT
                go_wp2_with fail
                go_roundw
                case rel => exact ⟨q + 1, now3 + 1, _, _, _, by omega, by go_num, by go_num, by have := Hnw3.out; show _ = _; omega, HH2, HT2, HTK2, by have := HL.out; have := HLV.out; show _ ≤ _; rw [List.length_append]; omega⟩
                case measure => first | omega | (simp [intOf]; done) | (simp [intOf]; omega)
            · obtain rfl : q = 100 := by omega
              as_aux_lemma =>
                obtain ⟨kg, hkg⟩ := Wk.ge_is HTK.out
                subst hkg
                obtain ⟨hgx, hta⟩ : GX kg C2 C' P.N P.hw 100 ee ∧ (kg.ph = 1 → kg.ta ≠ none) := HT.out
                have hhwP : P.hw = hw := by rw [HPE.out]
                rw [hPN, hhwP] at hgx
                have HOKG := Lib.hid HT.out.ok
                rcases hgx.done (by omega) with ⟨g1, g2, g3, g4, g5⟩ | ⟨j, g1, g2, g3, g4, g5, g6, g7⟩
                · have := HIN.out.end' (by omega) Hnb.out t1 g3
                  omega
                obtain rfl : j = m := by have := HIN.out.end' (by omega) Hnb.out t1 g3; omega
                have HRG : Hid ((Wk.ge kg).reply = replyV true V 0 0) := by
                  show kg.reply = _
                  unfold Ge.reply
                  rw [if_pos g1, g4, HIN.out.val]
                have HCALM : Hid (Calm C2 t s so d wa N j nb h0 ((e + 1 : Nat) : Int) ((now3 : Nat) : Int) (27 * ((e + 1 : Nat) : Int)) hi) := by
                  have h1 := HIN.out.took (hw := hw) (by omega) Hh0.out (by have := Hh0.out; have := Hhw.out; omega) (by have := Hhw.out; have := Hnb.out; omega) ((now3 : Nat) : Int) (by have := Hnw3.out; omega)
                  rw [← g6] at h1
                  show Calm _ _ _ _ _ _ _ _ _ _ _ _ _ _
                  rw [show ((e + 1 : Nat) : Int) = (e : Int) + 1 by omega, show 27 * ((e : Int) + 1) = 27 * e + 27 by omega]
                  exact h1
                clear g1 g2 g3 g4 g5 g6 g7 hgx hta hhwP HT HTK HIN
                have HPR := Lib.hid (fun w0 (h : TsH W w0 p c C2 L2 tg 1 ee 0 e (.ge kg) [tPu W.heap.size bp b1 b2 k, tTask W tb 0 ee V 0 (wPut bp)]) => (by
                  obtain ⟨v, h1⟩ := h.putof
                  have h2 := h1.treply
                  rw [HRP.out] at h2
                  exact h2 : Calls Try.prog 17 #[pt tb] w0 fun r w' => r = .returned (replyV true 0 lo hi) ∧ Below w0.heap.size w0 w'))
                have HGR := Lib.hid (fun w0 (h : TsH W w0 p c C2 L2 tg 1 ee 0 e (.ge kg) [tPu W.heap.size bp b1 b2 k, tTask W tb 0 ee V 0 (wPut bp)]) => (by
                  have h2 := h.reply HOKG.out
                  rw [HRG.out] at h2
                  exact h2 : Calls Try.prog 17 #[pt tg] w0 fun r w' => r = .returned (replyV true V 0 0) ∧ Below w0.heap.size w0 w'))
                have fp0 := fun W => field_ok W true 0 lo hi
                have fp2 := fun W => field_stamp W true 0 lo hi
                have fg0 := fun W => field_ok W true V 0 0
                have fg1 := fun W => field_value W true V 0 0
                go_wp2_with fail
                refine (HPR.out _ HH.out).mono ?_
                rintro r wx ⟨rfl, hb⟩
                replace HH := Lib.hid (HH.out.later hb)
                clear hb
                go_wp2_with fail
                refine (HGR.out _ HH.out).mono ?_
                rintro r wx ⟨rfl, hb⟩
                replace HH := Lib.hid (HH.out.later hb)
                clear hb
                go_wp2_with fail
                refine (HGR.out _ HH.out).mono ?_
                rintro r wx ⟨rfl, hb⟩
                replace HH := Lib.hid (HH.out.later hb)
                clear hb
                go_wp2_with fail
                refine (HPR.out _ HH.out).mono ?_
                rintro r wx ⟨rfl, hb⟩
                replace HH := Lib.hid (HH.out.later hb)
                clear hb
                go_wp2_with fail
                refine (right_yes lo hi _ hl0 hl1 hl2).mono ?_
                rintro r wx ⟨rfl, hb⟩
                replace HH := Lib.hid (HH.out.later hb)
                clear hb HPR HGR fp0 fp2 fg0 fg1
                obtain ⟨v2, hcl⟩ := HH.out.cells
                have HHC := Lib.hid hcl
                clear hcl HH
                go_wp2_with fail
                go_roundw
                case rel => exact ⟨e + 1, now3, _, _, _, _, by omega, by have := Hnw3.out; have := Hnw.out; have := Hnow.out; show _ = _; omega, rfl, by go_num, HHC, HCALM, by have := HL.out; show _ ≤ _; omega⟩
                case measure => first | omega | (simp [intOf]; done) | (simp [intOf]; omega)
    · skip
      as_aux_lemma =>
        obtain rfl : e = len5 := by omega
        have hge' : ¬ (e : Int) < (e : Int) := by omega
        clear hee2 Hee
        obtain ⟨ee, hee, hee2⟩ : ∃ e : Int, kdI (!a4) = e ∧ (e = 0 ∨ e = 1) := ⟨_, rfl, by cases a4 <;> simp⟩
        have Hee := Lib.hid hee
        clear hee
        go_wp2_with fail
        refine wp_region_seqS ((fun w' => AtC w' cb t s so d)) ((0, true) :: (1, true) :: (2, true) :: (3, true) :: (4, false) :: (5, false) :: (6, true) :: []) (by kernel_rfl) (by kernel_rfl) (by kernel_rfl) (by decide) (fun _ _ _ _ _ h => h) ((HA.out.later (Hold.below (Hold.drew HH.out)) Hs.out)) ?_
        replace HH := Lib.hid (Hold.drew HH.out)
        repeat (first | (refine seq_take (v := ?_) rfl ?_ ?_ ?_; rotate_left 1; rfl; (focus (intro wS hSw; obtain ⟨k0, k1, k2, k3⟩ := hSw; go_simp; first | done | with_reducible rfl)); (try simp only [Act.put, List.setIfInBounds_toArray, List.set_cons_zero, List.set_cons_succ])) | (refine seq_skip rfl ?_ ?_; rfl; (try simp only [Act.put, List.setIfInBounds_toArray, List.set_cons_zero, List.set_cons_succ])))
        refine seq_run rfl (fun K hK => ?_)
        go_simp
        go_at_call 11
        refine (make_at true (!a4) 0 0 1 ee _ rfl Hee.out).mono ?_
        rintro r w7 ⟨rfl, hb⟩
        (try go_wp2_with fail)
        replace HH := Lib.hid (Hold.later HH.out hb)
        clear hb
        refine hK.out _ _ ((HA.out.later (Hold.below HH.out) Hs.out)) (fun _ => ?_)
        (try simp only [Act.put, List.setIfInBounds_toArray, List.set_cons_zero, List.set_cons_succ])
        clear hK K
        repeat (first | (refine seq_take (v := ?_) rfl ?_ ?_ ?_; rotate_left 1; rfl; (focus (intro wS hSw; obtain ⟨k0, k1, k2, k3⟩ := hSw; go_simp; first | done | with_reducible rfl)); (try simp only [Act.put, List.setIfInBounds_toArray, List.set_cons_zero, List.set_cons_succ])) | (refine seq_skip rfl ?_ ?_; rfl; (try simp only [Act.put, List.setIfInBounds_toArray, List.set_cons_zero, List.set_cons_succ])))
        refine seq_run rfl (fun K hK => ?_)
        go_simp
        go_at_call 12
        refine (TsH.begun (who := wb) (m := (m2 : Int)) true rfl HH.out hlay hx0 hx1 Hm2.out (by omega) hmN2 hee2).mono ?_
        rintro r w8 ⟨tg, rfl, hT8⟩
        (try go_wp2_with fail)
        have HH2 : Hid (TsH W w8 p c C L tg 1 ee 0 0 (.ge (ge0 t s so d wb ee 0 N)) []) := hT8
        clear hT8 HH
        refine hK.out _ _ ((HA.out.later HH2.out.below Hs.out)) (fun _ => ?_)
        (try simp only [Act.put, List.setIfInBounds_toArray, List.set_cons_zero, List.set_cons_succ])
        clear hK K
        repeat (first | (refine seq_take (v := ?_) rfl ?_ ?_ ?_; rotate_left 1; rfl; (focus (intro wS hSw; obtain ⟨k0, k1, k2, k3⟩ := hSw; go_simp; first | done | with_reducible rfl)); (try simp only [Act.put, List.setIfInBounds_toArray, List.set_cons_zero, List.set_cons_succ])) | (refine seq_skip rfl ?_ ?_; rfl; (try simp only [Act.put, List.setIfInBounds_toArray, List.set_cons_zero, List.set_cons_succ])))
        refine seq_done ?_
        obtain ⟨P, hP, hPN⟩ : ∃ P : Pl, P = ⟨N, m2, nb, h0, hw⟩ ∧ P.N = N := ⟨_, rfl, rfl⟩
        have HPE := Lib.hid hP
        have HA0 : Hid (TsA (.ge (ge0 t s so d wb ee 0 N)) P C C 0 ee) := by
          have h1 : TsA (wk0 t s so d wb true ee 0 0 m2 N) ⟨N, m2, nb, h0, hw⟩ C C 0 ee := TsA.start true hlay (by have := HF.out.len; have := Hnb.out; omega) t4 s4 Hh0.out Hhw.out Hnb.out hx0 hx1 Hm2.out (by omega) hmN2 o0 o4 d0 d3 hee2 (by decide) (by decide)
          rw [hP]
          exact h1
        clear hP
        have HT0 : Hid ((Wk.ge (ge0 t s so d wb ee 0 N)).take = true) := rfl
        have HLe : Hid (L.length ≤ 200 * e + 0) := HL.out
        generalize Wk.ge (ge0 t s so d wb ee 0 N) = T0 at HH2 HA0 HT0
        clear HL
        go_wp2_with fail
        go_loopw [23] (fun i wr => ∃ (q : Nat) (C2 : List Int) (L2 : List Ev) (T : Wk), q ≤ 100 ∧ i = .int .i64 q ∧ Hid (TsH W wr p c C2 L2 tg 1 ee 0 0 T []) ∧ Hid (TsA T P C2 C q ee) ∧ Hid (T.take = true) ∧ Hid (L2.length ≤ 200 * e + q)) (fun i _ => 100 - (intOf i).toNat)
        case atStart => exact ⟨0, _, _, _, by omega, rfl, HH2, HA0, HT0, HLe⟩
        case round =>
          clear HH2 HA0 HT0 HLe
          obtain ⟨q, C2, L2, T, hq, rfl, HH, HT, HTK, HL⟩ := hrel
          rcases Nat.lt_or_ge q 100 with hq1 | hq1
          · have hq1' : (q : Int) < 100 := by omega
            have HFT := Lib.hid HH.out.fit
            go_wp2_with fail
            refine (HH.out.step (P := P) (now := (now : Int)) HT.out.ok (by omega) (by have := HL.out; omega)).mono ?_
            rintro r wx ⟨z, hz, rfl, hH⟩
            have HH2 := Lib.hid hH
            have HT2 := Lib.hid (HT.out.step (now := (now : Int)) hz (by omega) HFT.out)
            have HTK2 : Hid ((T.step P C2 (now : Int) z).take = true) := Wk.take_step.trans HTK.out
            have HLV := Lib.hid (Wk.ev_le (T := T) (P := P) (C := C2) (now := (now : Int)))
            clear hH hz HH HT HTK HFT
            go_wp2_with fail
            go_roundw
            case rel => exact ⟨q + 1, _, _, _, by omega, by go_num, HH2, HT2, HTK2, by have := HL.out; have := HLV.out; show _ ≤ _; rw [List.length_append]; omega⟩
            case measure => first | omega | (simp [intOf]; done) | (simp [intOf]; omega)
          · obtain rfl : q = 100 := by omega
            obtain ⟨kg, hkg⟩ := Wk.ge_is HTK.out
            subst hkg
            obtain ⟨hgx, hta⟩ : GX kg C2 C P.N P.hw 100 ee ∧ (kg.ph = 1 → kg.ta ≠ none) := HT.out
            rw [hPN] at hgx
            have HOKG := Lib.hid HT.out.ok
            rcases hgx.done (by omega) with ⟨g1, g2, g3, g4, g5⟩ | ⟨j, g1, g2, g3, g4, g5, g6, g7⟩
            · have HRG : Hid ((Wk.ge kg).reply = replyV false 0 0 0) := if_neg (by omega)
              have HPG : Hid ((Wk.ge kg).ph = 2) := g1
              clear g1 g2 g3 g4 g5 hgx hta HT HTK
              go_wp2_with fail
              refine (HH.out.over' true (by rw [HPG.out]; rfl)).mono ?_
              rintro r wx ⟨rfl, hb⟩
              replace HH := Lib.hid (HH.out.later hb)
              clear hb
              have HGR := HH.out.reply HOKG.out
              rw [HRG.out] at HGR
              have HGR2 := Lib.hid HGR
              clear HGR
              go_wp2_with fail
              refine HGR2.out.mono ?_
              rintro r wx ⟨rfl, hb⟩
              replace HH := Lib.hid (HH.out.later hb)
              clear hb HGR2
              go_wp2_with fail
              go_ret
              exact ⟨rfl, below_step' HB.out HH.out.below HB.out.size⟩
            · have := HF.out.end' (by omega) g3
              omega

end Go.Proofs.Ytemaghebpnjmoaa
