/-
  Contracts of package get, on: taking, a step, one that is begun, what is told of it; what a call holds that has cells and a get. No condition but that numbers fit their kinds.
-/
import Derived.Test.YticphioeipbnmaaGetCalls
import Derived.Test.YticphioeipbnmaaSnapPure
import Derived.Test.YticphioeipbnmaaTakeLaw
namespace Go.Proofs.Yticphioeipbnmaa
open Go.RowKit
set_option linter.unusedVariables false

section
variable (base : Nat) (w : World) (b bs gs p c x : Nat) (v : Value) (C : List Int) (L : List Ev) (k : Ge) (N : Nat)

theorem ge_apart {base : Nat} {w : World} {b bs gs x p c : Nat} {v : Value} {k : Ge} {a0 : Ta} (hT : IsGe base w b bs gs (some x) k) (ha : ∀ i, GeB b bs gs (some x) i → ¬ Foot p c v i) : ∀ i, (i = b ∨ i = bs ∨ i = gs) → ¬ (i = x ∨ Foot p c v i) := by
  rintro i hi (h | h)
  · obtain ⟨n1, n2, n3⟩ := hT.n3 x rfl
    rcases hi with rfl | rfl | rfl
    · exact n1 h.symm
    · exact n2 h.symm
    · exact n3 h.symm
  · rcases hi with rfl | rfl | rfl
    · exact ha _ (.inl rfl) h
    · exact ha _ (.inr (.inl rfl)) h
    · exact ha _ (.inr (.inr (.inl rfl))) h

theorem ge_took {base : Nat} {w w1 : World} {b bs gs x p c : Nat} {v v1 : Value} {C1 : List Int} {L1 : List Ev} {k : Ge} {a' : Ta} (hT : IsGe base w b bs gs (some x) k) (ha : ∀ i, GeB b bs gs (some x) i → ¬ Foot p c v i)
    (hD : Does (· = x) base w w1 p c v v1 C1 L1) (hO : IsObj w1 x a'.list) : Does (GeB b bs gs (some x)) base w w1 p c v v1 C1 L1 ∧ IsGe base w1 b bs gs (some x) { k with ta := some a' } := by
  have hx : base ≤ x := by
    rcases hT.ta with ⟨h1, _⟩ | ⟨x', a, h1, _, _, h4⟩
    · cases h1
    · cases h1
      exact h4
  have hap := ge_apart (a0 := a') hT ha
  exact ⟨hD.wideG (fun i hi => .inr (.inr (.inr (by rw [hi])))) ha (fun i hi => (hT.lt i hi).2), hT.obj.keep hD.keep (hap b (.inl rfl)), hT.sn.keep hD.keep (hap bs (.inr (.inl rfl))) (hap gs (.inr (.inr rfl))), .inr ⟨x, a', rfl, rfl, hO, hx⟩, hT.bb, hT.n1, hT.n2, hT.n3⟩

set_option maxRecDepth 100000 in
set_option maxHeartbeats 4000000 in
theorem grab_on (a' : Ta) (C1 : List Int) (L1 : List Ev) (h1 : a'.ph ≠ 1) (h2 : a'.ph ≠ 2) (hT : IsGe base w b bs gs (some x) k) (ha : ∀ i, GeB b bs gs (some x) i → ¬ Foot p c v i)
    (hin : Calls Try.prog 23 #[pt x, pt p] w (TaPost base w x p c v a'.list C1 L1 (.returned (i64 a'.ph)))) :
    Calls Try.prog 49 #[pt b, pt p] w fun r w' => r = .returned (.tuple #[]) ∧ GePost base w b bs gs (some x) p c v (k.grab N a') C1 L1 w' := by
  have q1 : (a'.ph == 1) = false := by simp [h1]
  have q2 : (a'.ph == 2) = false := by simp [h2]
  have HE : Hid (k.grab N a' = { k with ta := some a' }) := by show _ = _; unfold Ge.grab; rw [if_neg h1, if_neg h2]
  have HIN := Lib.hid hin
  have HT := Lib.hid hT
  have HA := Lib.hid ha
  have c8 : w.cell? ⟨b, 8, none⟩ = some (pt x) := hT.obj.at' 8 _ rfl
  clear hT ha hin h1 h2
  go_enter Try.func49, Try.ntmps49
  go_wp2_with fail
  refine HIN.out.mono ?_
  rintro r w1 ⟨rfl, v1, hD, hO⟩
  obtain ⟨g1, g2⟩ := ge_took HT.out HA.out hD hO
  have HD := Lib.hid g1
  have HG := Lib.hid g2
  clear hD hO g1 g2 c8
  go_wp2
  go_end0
  rw [HE.out]
  exact ⟨rfl, v1, bs, gs, some x, HD.out, HG.out, fun i hi => .inl hi, HD.out.apart⟩

set_option maxRecDepth 100000 in
set_option maxHeartbeats 4000000 in
theorem grab_done (a' : Ta) (C1 : List Int) (L1 : List Ev) (h1 : a'.ph = 1) (hT : IsGe base w b bs gs (some x) k) (ha : ∀ i, GeB b bs gs (some x) i → ¬ Foot p c v i)
    (hin : Calls Try.prog 23 #[pt x, pt p] w (TaPost base w x p c v a'.list C1 L1 (.returned (i64 a'.ph)))) :
    Calls Try.prog 49 #[pt b, pt p] w fun r w' => r = .returned (.tuple #[]) ∧ GePost base w b bs gs (some x) p c v (k.grab N a') C1 L1 w' := by
  have q1 : (a'.ph == 1) = true := by simp [h1]
  have HE : Hid (k.grab N a' = { k with ta := some a', ph := 1 }) := by show _ = _; unfold Ge.grab; rw [if_pos h1]
  have HIN := Lib.hid hin
  have HT := Lib.hid hT
  have HA := Lib.hid ha
  have c8 : w.cell? ⟨b, 8, none⟩ = some (pt x) := hT.obj.at' 8 _ rfl
  clear hT ha hin h1
  go_enter Try.func49, Try.ntmps49
  go_wp2_with fail
  refine HIN.out.mono ?_
  rintro r w1 ⟨rfl, v1, hD, hO⟩
  obtain ⟨g1, g2⟩ := ge_took HT.out HA.out hD hO
  have HD := Lib.hid g1
  have HG := Lib.hid g2
  clear hD hO g1 g2 c8
  have c10 := HG.out.obj.at' 10 _ rfl
  have f10 := HG.out.obj.fz 10
  go_wp2
  go_end0
  rw [HE.out]
  have hk := (Keep.refl (· = b) w1).own 10 (.int .i64 1)
  have hn := HG.out.n3 x rfl
  refine ⟨rfl, v1, bs, gs, some x, HD.out.own (hk.mono (fun i hi => .inl hi)), ⟨HG.out.obj.set 10 (.int .i64 1), HG.out.sn.keep hk (fun h => HG.out.n1 h.symm) (fun h => HG.out.n2 h.symm), ?_, HG.out.bb, HG.out.n1, HG.out.n2, HG.out.n3⟩, fun i hi => .inl hi, HD.out.apart⟩
  rcases HG.out.ta with ⟨e1, _⟩ | ⟨x', a, e1, e2, e3, e4⟩
  · cases e1
  · cases e1
    cases e2
    exact .inr ⟨x, a', rfl, rfl, e3.keep hk hn.1, e4⟩

set_option maxRecDepth 100000 in
set_option maxHeartbeats 8000000 in
theorem grab_lost (a' : Ta) (C1 : List Int) (L1 : List Ev) (h2 : a'.ph = 2) (hl : Lay k.t k.s N) (t0 : 0 ≤ k.tries) (t1 : k.tries ≤ 1000000) (hT : IsGe base w b bs gs (some x) k) (ha : ∀ i, GeB b bs gs (some x) i → ¬ Foot p c v i) (hb : base ≤ w.heap.size)
    (hin : Calls Try.prog 23 #[pt x, pt p] w (TaPost base w x p c v a'.list C1 L1 (.returned (i64 a'.ph)))) :
    Calls Try.prog 49 #[pt b, pt p] w fun r w' => r = .returned (.tuple #[]) ∧ GePost base w b bs gs (some x) p c v (k.grab N a') C1 L1 w' := by
  have q1 : (a'.ph == 1) = false := by simp [h2]
  have q2 : (a'.ph == 2) = true := by simp [h2]
  have HE : Hid (k.grab N a' = { k with tries := k.tries + 1, sn := sn0 k.t k.s k.so k.d k.who (IntKind.u64.wrap k.start % N) N, ta := none }) := by show _ = _; unfold Ge.grab; rw [if_neg (by omega), if_pos h2]
  have hwr : wrap64 (k.tries + 1) = k.tries + 1 := by unfold wrap64; omega
  have HIN := Lib.hid hin
  have HT := Lib.hid hT
  have HA := Lib.hid ha
  have c8 : w.cell? ⟨b, 8, none⟩ = some (pt x) := hT.obj.at' 8 _ rfl
  clear hT ha hin h2
  go_enter Try.func49, Try.ntmps49
  go_wp2_with fail
  refine HIN.out.mono ?_
  rintro r w1 ⟨rfl, v1, hD, hO⟩
  obtain ⟨g1, g2⟩ := ge_took HT.out HA.out hD hO
  have HD := Lib.hid g1
  have HG := Lib.hid g2
  have HW1 : Hid (w.heap.size ≤ w1.heap.size) := hD.keep.size
  clear hD hO g1 g2 c8
  have c9 := HG.out.obj.at' 9 _ rfl
  have f9 := HG.out.obj.fz 9
  go_wp2_with fail
  have hk := (Keep.refl (· = b) w1).own 9 (.int .i64 (k.tries + 1))
  have hn := HG.out.n3 x rfl
  have HO2 : Hid (IsObj (w1.setCell ⟨b, 9, none⟩ (.int .i64 (k.tries + 1))) b (({ k with tries := k.tries + 1 } : Ge).list bs (some x))) := HG.out.obj.set 9 (.int .i64 (k.tries + 1))
  have HS2 := Lib.hid (HG.out.sn.keep hk (fun h => HG.out.n1 h.symm) (fun h => HG.out.n2 h.symm))
  have HD2 := Lib.hid (HD.out.own (hk.mono (fun i hi => .inl hi)))
  have Hlt : Hid (∀ i, GeB b bs gs (some x) i → i < w1.heap.size) := fun i hi => (HG.out.lt i hi).2
  have HN : Hid (b ≠ bs ∧ b ≠ gs ∧ base ≤ b) := ⟨HG.out.n1, HG.out.n2, HG.out.bb⟩
  have HSZ : Hid (w1.heap.size ≤ (w1.setCell ⟨b, 9, none⟩ (.int .i64 (k.tries + 1))).heap.size) := by show _ ≤ _; simp [World.setCell]
  clear hk hn c9 f9 HG HD
  generalize w1.setCell ⟨b, 9, none⟩ (.int .i64 (k.tries + 1)) = w2 at HO2 HS2 HD2 HSZ ⊢
  refine wp_region_seqS ((fun w' => AtGe w' b k)) ((0, true) :: (1, true) :: (2, true) :: (3, true) :: (4, true) :: (5, true) :: (6, true) :: (7, true) :: (8, true) :: (9, true) :: (10, true) :: (11, true) :: (12, true) :: (13, true) :: (14, false) :: (15, true) :: (16, true) :: (17, false) :: (18, true) :: (19, true) :: (20, false) :: []) (by kernel_rfl) (by kernel_rfl) (by kernel_rfl) (by decide) (fun _ _ _ _ _ h => h) ((HO2.out.drew.ge).to k rfl rfl rfl rfl rfl rfl rfl) ?_
  replace HO2 := Lib.hid HO2.out.drew
  replace HD2 := Lib.hid HD2.out.drew
  have HSZ2 : Hid (w1.heap.size ≤ w2.drew.heap.size) := HSZ.out
  repeat (first | (refine seq_take (v := ?_) rfl ?_ ?_ ?_; rotate_left 1; rfl; (focus (intro wS hSw; obtain ⟨c0, c1, c2, c3, c4, c5, c6⟩ := hSw; go_simp; first | done | with_reducible rfl)); (try simp only [Act.put, List.setIfInBounds_toArray, List.set_cons_zero, List.set_cons_succ])) | (refine seq_skip rfl ?_ ?_; rfl; (try simp only [Act.put, List.setIfInBounds_toArray, List.set_cons_zero, List.set_cons_succ])))
  refine seq_run rfl (fun K hK => ?_)
  go_simp
  go_at_call 12
  refine (snnew_any base _ k.t k.s k.so k.d k.who k.start N N hl rfl HD2.out.size).mono ?_
  rintro r w3 ⟨y, g, rfl, hS3, hb3, hy, hg⟩
  (try go_wp2_with fail)
  replace HO2 := Lib.hid (HO2.out.later hb3)
  have HD3 := Lib.hid (HD2.out.later hb3)
  have HS3 := Lib.hid hS3
  have HNW : Hid (w1.heap.size ≤ y ∧ w1.heap.size ≤ g ∧ (∀ i, Foot p c v1 i → i ≠ y ∧ i ≠ g)) := by
    refine ⟨by have := HSZ2.out; omega, by have := HSZ2.out; omega, fun i hi => ⟨fun e => ?_, fun e => ?_⟩⟩
    · have := (HD2.out.mem.foot i hi).2
      omega
    · have := (HD2.out.mem.foot i hi).2
      omega
  clear hS3 hb3 hy hg HD2 HS2
  refine hK.out _ _ ((HO2.out.ge).to k rfl rfl rfl rfl rfl rfl rfl) (fun _ => ?_)
  (try simp only [Act.put, List.setIfInBounds_toArray, List.set_cons_zero, List.set_cons_succ])
  clear hK K
  repeat (first | (refine seq_take (v := ?_) rfl ?_ ?_ ?_; rotate_left 1; rfl; (focus (intro wS hSw; obtain ⟨c0, c1, c2, c3, c4, c5, c6⟩ := hSw; go_simp; first | done | with_reducible rfl)); (try simp only [Act.put, List.setIfInBounds_toArray, List.set_cons_zero, List.set_cons_succ])) | (refine seq_skip rfl ?_ ?_; rfl; (try simp only [Act.put, List.setIfInBounds_toArray, List.set_cons_zero, List.set_cons_succ])))
  refine seq_run rfl (fun K hK => ?_)
  go_simp
  have c7 := HO2.out.at' 7 _ rfl
  have f7 := HO2.out.fz 7
  (try go_simp)
  clear c7 f7
  have hk7 := (Keep.refl (· = b) w3).own 7 (pt y)
  have HO4 : Hid (IsObj (w3.setCell ⟨b, 7, none⟩ (pt y)) b (({ k with tries := k.tries + 1 } : Ge).list y (some x))) := HO2.out.set 7 (pt y)
  have hyb : y ≠ b ∧ g ≠ b := by
    have h1 := Hlt.out b (.inl rfl)
    have h2 := HNW.out
    omega
  have HS4 := Lib.hid (HS3.out.keep hk7 (fun e => hyb.1 e) (fun e => hyb.2 e))
  have HD4 := Lib.hid (HD3.out.own (hk7.mono (fun i hi => .inl hi)))
  clear hk7 HO2 HS3 HD3
  generalize w3.setCell ⟨b, 7, none⟩ (pt y) = w4 at HO4 HS4 HD4 ⊢
  refine hK.out _ _ ((HO4.out.ge).to k rfl rfl rfl rfl rfl rfl rfl) (fun _ => ?_)
  (try simp only [Act.put, List.setIfInBounds_toArray, List.set_cons_zero, List.set_cons_succ])
  clear hK K
  repeat (first | (refine seq_take (v := ?_) rfl ?_ ?_ ?_; rotate_left 1; rfl; (focus (intro wS hSw; obtain ⟨c0, c1, c2, c3, c4, c5, c6⟩ := hSw; go_simp; first | done | with_reducible rfl)); (try simp only [Act.put, List.setIfInBounds_toArray, List.set_cons_zero, List.set_cons_succ])) | (refine seq_skip rfl ?_ ?_; rfl; (try simp only [Act.put, List.setIfInBounds_toArray, List.set_cons_zero, List.set_cons_succ])))
  refine seq_run rfl (fun K hK => ?_)
  go_simp
  have c8 : w4.cell? ⟨b, 8, none⟩ = some (pt x) := HO4.out.at' 8 _ rfl
  have f8 := HO4.out.fz 8
  (try go_simp)
  clear c8 f8
  have hk8 := (Keep.refl (· = b) w4).own 8 (.pointer none)
  have HO5 : Hid (IsObj (w4.setCell ⟨b, 8, none⟩ (.pointer none)) b (({ k with tries := k.tries + 1 } : Ge).list y none)) := HO4.out.set 8 (.pointer none)
  have HS5 := Lib.hid (HS4.out.keep hk8 (fun e => hyb.1 e) (fun e => hyb.2 e))
  have HD5 := Lib.hid (HD4.out.own (hk8.mono (fun i hi => .inl hi)))
  clear hk8 HO4 HS4 HD4
  generalize w4.setCell ⟨b, 8, none⟩ (.pointer none) = w5 at HO5 HS5 HD5 ⊢
  refine hK.out _ _ ((HO5.out.ge).to k rfl rfl rfl rfl rfl rfl rfl) (fun _ => ?_)
  (try simp only [Act.put, List.setIfInBounds_toArray, List.set_cons_zero, List.set_cons_succ])
  clear hK K
  refine seq_done ?_
  clear hwr
  go_wp2
  go_end0
  rw [HE.out]
  have hs1 := HW1.out
  refine ⟨rfl, v1, y, g, none, HD5.out, ⟨HO5.out, HS5.out, .inl ⟨rfl, rfl⟩, HN.out.2.2, fun e => hyb.1 e.symm, fun e => hyb.2 e.symm, fun _ h => by cases h⟩, ?_, ?_⟩
  · rintro i (h | h | h | h)
    · exact .inl (.inl h)
    · exact .inr (by have := HNW.out.1; omega)
    · exact .inr (by have := HNW.out.2.1; omega)
    · cases h
  · rintro i (h | h | h | h)
    · exact HD5.out.apart i (.inl h)
    · exact fun hf => (HNW.out.2.2 i hf).1 h
    · exact fun hf => (HNW.out.2.2 i hf).2 h
    · cases h
end

end Go.Proofs.Yticphioeipbnmaa
