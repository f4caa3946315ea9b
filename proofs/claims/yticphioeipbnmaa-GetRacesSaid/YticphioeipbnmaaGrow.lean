/-
  Plain lemmas on worlds that only grow: blocks behind all that was there, and draws. Contracts of what an order of places calls, in these words. No condition but that numbers fit their kinds.
-/
import Derived.Test.YticphioeipbnmaaProg
import Derived.Test.YticphioeipbnmaaBase
import Derived.Test.YticphioeipbnmaaStampCalls
import Derived.Test.YticphioeipbnmaaWordCalls
import Derived.Sort.Grow
namespace Go.Proofs.Yticphioeipbnmaa
open Go.RowKit
set_option linter.unusedVariables false

/-- Nothing that was there is turned; the count of draws doesn't fall. -/
structure Gr (w w' : World) : Prop where
  below : Below w.heap.size w w'
  drawn : w.drawn ≤ w'.drawn

theorem Gr.refl (w : World) : Gr w w := ⟨Below.refl _ _, Nat.le_refl _⟩
theorem Gr.step {a b c : World} (h : Gr a b) (k : Gr b c) : Gr a c := ⟨below_step h.below k.below, Nat.le_trans h.drawn k.drawn⟩
theorem Gr.new {w W : World} (h : Gr w W) (o : Obj) : Gr w (W.alloc o) := ⟨below_new h.below o, h.drawn⟩
theorem Gr.drew {w W : World} (h : Gr w W) : Gr w W.drew := ⟨h.below.drew, Nat.le_trans h.drawn (by show W.drawn ≤ W.drawn + 1; omega)⟩
theorem Gr.set {w W : World} (h : Gr w W) {p : Addr} (hp : w.heap.size ≤ p.block) (u : Value) : Gr w (W.setCell p u) := ⟨below_set h.below hp u, h.drawn⟩
theorem Gr.cell {w W : World} (h : Gr w W) {a : Addr} {x : Value} (hx : w.cell? a = some x) : W.cell? a = some x := (below_rule h.below a (by rw [hx]; rfl)).trans hx

theorem cell_new {w : World} {a : Addr} {v : Value} (h : w.cell? a = some v) (o : Obj) : (w.alloc o).cell? a = some v := ((Gr.refl w).new o).cell h

/-- .. as an equation. -/
theorem Gr.grown {w w' : World} (h : Gr w w') : ∃ q os, w' = Go.Sort.grow (w.drewN q) os := by
  refine ⟨w'.drawn - w.drawn, w'.heap.extract w.heap.size w'.heap.size, ?_⟩
  obtain ⟨⟨h1, h2, h3, h4, h5⟩, h6⟩ := h
  cases w with
  | mk a b c d e =>
    cases w' with
    | mk a' b' c' d' e' =>
      simp only at h1 h2 h3 h4 h5 h6
      subst h1 h2 h3
      simp only [Go.Sort.grow, World.drewN, World.mk.injEq, true_and]
      refine ⟨?_, by omega, trivial⟩
      apply Array.ext_getElem?
      intro k
      rw [Array.getElem?_append]
      by_cases hk : k < a.size
      · rw [if_pos hk, h5 k hk]
      · rw [if_neg hk, Array.getElem?_extract]
        by_cases hk2 : k < a'.size
        · rw [if_pos (by omega)]
          congr 1
          omega
        · rw [if_neg (by omega), Array.getElem?_eq_none (by omega)]

set_option maxHeartbeats 400000 in
theorem or_same (x y : Int) (b : Nat) (w : World) (h0 : w.cell? ⟨b, 0, none⟩ = some (i64 x)) (h1 : w.cell? ⟨b, 1, none⟩ = some (i64 y)) :
    Calls Try.prog 60 #[.slice (some ⟨b, 0, none⟩) 2 2] w fun e w' => e = .returned (i64 (orI x y)) ∧ w = w' := by
  go_enter Try.func60, Try.ntmps60
  go_wp2
  go_loop [8] (fun i => ∃ k : Nat, k ≤ 2 ∧ i = .int .i64 k ∧ Hid ((1 ≤ k → x = 0) ∧ (2 ≤ k → y = 0))) (fun i => 2 - (intOf i).toNat)
  case atStart => exact ⟨0, by omega, rfl, ⟨by omega, by omega⟩⟩
  case round =>
    obtain ⟨k, hk, rfl, hz⟩ := hrel
    rcases Nat.lt_or_ge k 2 with h2 | h2
    · rcases Nat.lt_or_ge k 1 with h3 | h3
      · obtain rfl : k = 0 := by omega
        by_cases hx : x = 0
        · have hx' : (x != 0) = false := by simp [hx]
          have Hx := Lib.hid hx; clear hx
          go_wp2
          go_round
          case rel => exact ⟨1, by omega, rfl, ⟨fun _ => Hx.out, by omega⟩⟩
          case measure => simp [intOf]
        · have hx' : (x != 0) = true := by simp [hx]
          have Hx := Lib.hid hx; clear hx
          go_wp2
          go_ret
          exact ⟨by unfold orI; rw [if_neg Hx.out]; rfl, rfl⟩
      · obtain rfl : k = 1 := by omega
        have Hz := hz.out.1 (by omega)
        have HZ := Lib.hid Hz; clear Hz
        by_cases hx : y = 0
        · have hx' : (y != 0) = false := by simp [hx]
          have Hx := Lib.hid hx; clear hx
          go_wp2
          go_round
          case rel => exact ⟨2, by omega, rfl, ⟨fun _ => HZ.out, fun _ => Hx.out⟩⟩
          case measure => simp [intOf]
        · have hx' : (y != 0) = true := by simp [hx]
          have Hx := Lib.hid hx; clear hx
          go_wp2
          go_ret
          exact ⟨by unfold orI; rw [if_pos HZ.out]; rfl, rfl⟩
    · obtain rfl : k = 2 := by omega
      go_wp2
      go_ret
      exact ⟨by unfold orI; rw [if_pos (hz.out.1 (by omega)), hz.out.2 (by omega)]; rfl, rfl⟩

set_option maxHeartbeats 400000 in
theorem compare_gr (a b c d : Int) (w : World) :
    Calls Try.prog 61 #[st a b, st c d] w fun e w' => e = .returned (i64 (cmpS a b c d)) ∧ Gr w w' := by
  go_enter Try.func61, Try.ntmps61
  go_wp2
  go_region_held3 (fun w' => w'.cell? ⟨w.heap.size, 0, none⟩ = some (i64 a) ∧ w'.cell? ⟨w.heap.size, 1, none⟩ = some (i64 b) ∧ w'.cell? ⟨w.heap.size + 1, 0, none⟩ = some (i64 c) ∧ w'.cell? ⟨w.heap.size + 1, 1, none⟩ = some (i64 d)) (first | go_keep | (refine ⟨cell_later hb ?_, cell_later hb ?_, cell_later hb ?_, cell_later hb ?_⟩ <;> go_simp))
    (first | (go_at_call 62; refine (cmpint_any _ _ _).mono ?_; rintro e w' ⟨rfl, rfl⟩) | (go_at_call 60; refine (or_same (cmpI a c) (cmpI b d) _ _ ?h0 ?h1).mono ?hm; (case h0 => go_simp); (case h1 => go_simp); rintro e w' ⟨rfl, rfl⟩))
  all_goals
    go_wp2
    go_ret
    exact ⟨rfl, by first | exact (((Gr.refl _).new _).new _).drew.new _⟩

set_option maxHeartbeats 400000 in
theorem cmpend_any (a b : Int) (w : World) :
    Calls Try.prog 63 #[i64 a, i64 b] w fun e w' => e = .returned (i64 (cmpI a b)) ∧ w = w' := by
  by_cases h1 : a < b
  · have hr : cmpI a b = -1 := by simp [cmpI, h1]
    have Hr := Lib.hid hr; clear hr
    go_enter Try.func63, Try.ntmps63
    go_wp2
    go_ret
    exact ⟨by rw [Hr.out]; rfl, rfl⟩
  · by_cases h2 : b < a
    · have hr : cmpI a b = 1 := by simp [cmpI, h1, h2]
      have Hr := Lib.hid hr; clear hr
      go_enter Try.func63, Try.ntmps63
      go_wp2
      go_ret
      exact ⟨by rw [Hr.out]; rfl, rfl⟩
    · have hr : cmpI a b = 0 := by simp [cmpI, h1, h2]
      have Hr := Lib.hid hr; clear hr
      go_enter Try.func63, Try.ntmps63
      go_wp2
      go_ret
      exact ⟨by rw [Hr.out]; rfl, rfl⟩

set_option maxHeartbeats 1000000 in
theorem unpack_gr (x : Int) (w : World) (h0 : 0 ≤ x) (h1 : x ≤ 18446744073709551615) :
    Calls Try.prog 36 #[u64 x] w fun r w' => r = .returned (wd (x % 4) (x / 4 % 2) (x / 8 % 8192) (x / 65536 % 16777216) (x / 1099511627776)) ∧ Gr w w' := by
  have c1 : wrap64 (bits BinOp.and IntKind.u64 x 3) = x % 4 := by rw [and_mod x 3 4 2 rfl rfl (by omega) (by omega) (by omega)]; unfold wrap64; omega
  have c2 : wrap64 (bits BinOp.and IntKind.u64 (x / 4) 1) = x / 4 % 2 := by rw [and_mod _ 1 2 1 rfl rfl (by omega) (by omega) (by omega)]; unfold wrap64; omega
  have c3 : wrap64 (bits BinOp.and IntKind.u64 (x / 8) 8191) = x / 8 % 8192 := by rw [and_mod _ 8191 8192 13 rfl rfl (by omega) (by omega) (by omega)]; unfold wrap64; omega
  have c4 : wrap64 (bits BinOp.and IntKind.u64 (x / 65536) 16777215) = x / 65536 % 16777216 := by rw [and_mod _ 16777215 16777216 24 rfl rfl (by omega) (by omega) (by omega)]; unfold wrap64; omega
  have c5 : wrap64 (bits BinOp.and IntKind.u64 (x / 1099511627776) 16777215) = x / 1099511627776 := by rw [and_mod _ 16777215 16777216 24 rfl rfl (by omega) (by omega) (by omega)]; unfold wrap64; omega
  rw [← c1, ← c2, ← c3, ← c4]
  rw [← c5]
  clear c1 c2 c3 c4 c5
  go_enter Try.func36, Try.ntmps36
  go_wp2_with fail
  refine bodyPost_ret (v := wd (wrap64 (bits BinOp.and IntKind.u64 x 3)) (wrap64 (bits BinOp.and IntKind.u64 (x / 4) 1)) (wrap64 (bits BinOp.and IntKind.u64 (x / 8) 8191)) (wrap64 (bits BinOp.and IntKind.u64 (x / 65536) 16777215)) (wrap64 (bits BinOp.and IntKind.u64 (x / 1099511627776) 16777215))) (by simp [results, Try.results36, go_sem]) rfl ⟨rfl, (Gr.refl _).new _⟩

end Go.Proofs.Yticphioeipbnmaa
