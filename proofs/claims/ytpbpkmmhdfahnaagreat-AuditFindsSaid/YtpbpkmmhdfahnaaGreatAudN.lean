/-
  The contracts of package audit's watch: whether an event may be. No condition but that numbers fit their kinds.
-/
import Derived.Test.YtpbpkmmhdfahnaaGreatWatch
import Derived.Test.YtpbpkmmhdfahnaaGreatEvRow

namespace Go.Proofs.YtpbpkmmhdfahnaaGreat
open Go.RowKit
set_option linter.unusedVariables false

section
variable {w : World} {wb bc bg : Nat} {t s so d : Int} {N n : Nat} {f : Int → Int} {g : Int → Int → Option Int} {e : Ev}
set_option maxRecDepth 100000 in
set_option maxHeartbeats 4000000 in
theorem amay_num0 (h : WAt w wb bc bg t s so d N n f g) (hf : e.Fit) (j : Int) (b : Bool) (hb : b = true ↔ MayN so j e) (hway : so = 0 ∧ j ≠ 0) :
    Calls Tryz.prog 47 #[pt wb, e.v, i64 j] w fun r w' => r = .returned (.bool b) ∧ Below w.heap.size w w' := by
  obtain ⟨gs, gj⟩ := hway
  obtain rfl : b = false := by
    cases b with
    | false => rfl
    | true => exact absurd (hb.1 rfl) (by unfold MayN inc64; omega)
  have s0x : (so == 0) = true := by simp [gs]
  have s1x : (so == 1) = false := by simp [gs]
  have s2x : (so == 2) = false := by simp [gs]
  have j0 : (j == 0) = false := beq_false_of_ne gj
  clear hb gj gs
  have hwb := h.obj.lt
  obtain ⟨q0, q1, q2, q3, q4, q5⟩ : _ ∧ _ ∧ _ ∧ _ ∧ _ ∧ _ := ⟨h.obj.at' 0 _ rfl, h.obj.at' 1 _ rfl, h.obj.at' 2 _ rfl, h.obj.at' 3 _ rfl, h.obj.at' 4 _ rfl, h.obj.at' 5 _ rfl⟩
  clear h hf
  go_enter Tryz.func47, Tryz.ntmps47
  go_wp2_with fail
  go_ret
  exact ⟨rfl, below_new (Below.refl _ _) _⟩
set_option maxRecDepth 100000 in
set_option maxHeartbeats 4000000 in
theorem amay_num1 (h : WAt w wb bc bg t s so d N n f g) (hf : e.Fit) (j : Int) (b : Bool) (hb : b = true ↔ MayN so j e) (hway : so = 0 ∧ j = 0 ∧ e.op ≠ 3) :
    Calls Tryz.prog 47 #[pt wb, e.v, i64 j] w fun r w' => r = .returned (.bool b) ∧ Below w.heap.size w w' := by
  obtain ⟨gs, gj, gn3⟩ := hway
  obtain rfl : b = false := by
    cases b with
    | false => rfl
    | true => exact absurd (hb.1 rfl) (by unfold MayN inc64; omega)
  have s0x : (so == 0) = true := by simp [gs]
  have s1x : (so == 1) = false := by simp [gs]
  have s2x : (so == 2) = false := by simp [gs]
  have j0 : (j == 0) = true := by simp [gj]
  obtain ⟨zz0, z0⟩ : ∃ z, (e.op == 0) = z := ⟨_, rfl⟩
  obtain ⟨zz1, z1⟩ : ∃ z, (e.op == 1) = z := ⟨_, rfl⟩
  obtain ⟨zz2, z2⟩ : ∃ z, (e.op == 2) = z := ⟨_, rfl⟩
  have z3 : (e.op == 3) = false := beq_false_of_ne gn3
  clear hb gj gn3 gs
  have hwb := h.obj.lt
  obtain ⟨q0, q1, q2, q3, q4, q5⟩ : _ ∧ _ ∧ _ ∧ _ ∧ _ ∧ _ := ⟨h.obj.at' 0 _ rfl, h.obj.at' 1 _ rfl, h.obj.at' 2 _ rfl, h.obj.at' 3 _ rfl, h.obj.at' 4 _ rfl, h.obj.at' 5 _ rfl⟩
  clear h hf
  go_enter Tryz.func47, Tryz.ntmps47
  go_wp2_with fail
  go_ret
  exact ⟨rfl, below_new (Below.refl _ _) _⟩
set_option maxRecDepth 100000 in
set_option maxHeartbeats 4000000 in
theorem amay_num2 (h : WAt w wb bc bg t s so d N n f g) (hf : e.Fit) (j : Int) (b : Bool) (hb : b = true ↔ MayN so j e) (hway : so = 0 ∧ j = 0 ∧ e.op = 3 ∧ e.new ≠ IntKind.u64.wrap (e.old + 1)) :
    Calls Tryz.prog 47 #[pt wb, e.v, i64 j] w fun r w' => r = .returned (.bool b) ∧ Below w.heap.size w w' := by
  obtain ⟨gs, gj, gop, gx⟩ := hway
  obtain rfl : b = false := by
    cases b with
    | false => rfl
    | true => exact absurd (hb.1 rfl) (by unfold MayN inc64; omega)
  have s0x : (so == 0) = true := by simp [gs]
  have s1x : (so == 1) = false := by simp [gs]
  have s2x : (so == 2) = false := by simp [gs]
  have j0 : (j == 0) = true := by simp [gj]
  have z0 : (e.op == 0) = false := by simp [gop]
  have z1 : (e.op == 1) = false := by simp [gop]
  have z2 : (e.op == 2) = false := by simp [gop]
  have z3 : (e.op == 3) = true := by simp [gop]
  have n0 : (e.new == IntKind.u64.wrap (e.old + 1)) = false := beq_false_of_ne gx
  clear hb gj gop gx gs
  have hwb := h.obj.lt
  obtain ⟨q0, q1, q2, q3, q4, q5⟩ : _ ∧ _ ∧ _ ∧ _ ∧ _ ∧ _ := ⟨h.obj.at' 0 _ rfl, h.obj.at' 1 _ rfl, h.obj.at' 2 _ rfl, h.obj.at' 3 _ rfl, h.obj.at' 4 _ rfl, h.obj.at' 5 _ rfl⟩
  clear h hf
  go_enter Tryz.func47, Tryz.ntmps47
  go_wp2_with fail
  go_ret
  exact ⟨rfl, below_new (Below.refl _ _) _⟩
set_option maxRecDepth 100000 in
set_option maxHeartbeats 4000000 in
theorem amay_num3 (h : WAt w wb bc bg t s so d N n f g) (hf : e.Fit) (j : Int) (b : Bool) (hb : b = true ↔ MayN so j e) (hway : so = 0 ∧ j = 0 ∧ e.op = 3 ∧ e.new = IntKind.u64.wrap (e.old + 1)) :
    Calls Tryz.prog 47 #[pt wb, e.v, i64 j] w fun r w' => r = .returned (.bool b) ∧ Below w.heap.size w w' := by
  obtain ⟨gs, gj, gop, gx⟩ := hway
  obtain rfl : b = true := hb.2 (.inl ⟨gs, gj, gop, gx⟩)
  have s0x : (so == 0) = true := by simp [gs]
  have s1x : (so == 1) = false := by simp [gs]
  have s2x : (so == 2) = false := by simp [gs]
  have j0 : (j == 0) = true := by simp [gj]
  have z0 : (e.op == 0) = false := by simp [gop]
  have z1 : (e.op == 1) = false := by simp [gop]
  have z2 : (e.op == 2) = false := by simp [gop]
  have z3 : (e.op == 3) = true := by simp [gop]
  have n0 : (e.new == IntKind.u64.wrap (e.old + 1)) = true := by simp [gx]
  clear hb gj gop gx gs
  have hwb := h.obj.lt
  obtain ⟨q0, q1, q2, q3, q4, q5⟩ : _ ∧ _ ∧ _ ∧ _ ∧ _ ∧ _ := ⟨h.obj.at' 0 _ rfl, h.obj.at' 1 _ rfl, h.obj.at' 2 _ rfl, h.obj.at' 3 _ rfl, h.obj.at' 4 _ rfl, h.obj.at' 5 _ rfl⟩
  clear h hf
  go_enter Tryz.func47, Tryz.ntmps47
  go_wp2_with fail
  go_ret
  exact ⟨rfl, below_new (Below.refl _ _) _⟩
set_option maxRecDepth 100000 in
set_option maxHeartbeats 4000000 in
theorem amay_num4 (h : WAt w wb bc bg t s so d N n f g) (hf : e.Fit) (j : Int) (b : Bool) (hb : b = true ↔ MayN so j e) (hway : so = 1 ∧ e.op = 0) :
    Calls Tryz.prog 47 #[pt wb, e.v, i64 j] w fun r w' => r = .returned (.bool b) ∧ Below w.heap.size w w' := by
  obtain ⟨gs, gop⟩ := hway
  obtain rfl : b = true := hb.2 (.inr (.inl ⟨gs, .inl gop⟩))
  have s0x : (so == 0) = false := by simp [gs]
  have s1x : (so == 1) = true := by simp [gs]
  have s2x : (so == 2) = false := by simp [gs]
  have z0 : (e.op == 0) = true := by simp [gop]
  have z1 : (e.op == 1) = false := by simp [gop]
  have z2 : (e.op == 2) = false := by simp [gop]
  have z3 : (e.op == 3) = false := by simp [gop]
  clear hb gop gs
  have hwb := h.obj.lt
  obtain ⟨q0, q1, q2, q3, q4, q5⟩ : _ ∧ _ ∧ _ ∧ _ ∧ _ ∧ _ := ⟨h.obj.at' 0 _ rfl, h.obj.at' 1 _ rfl, h.obj.at' 2 _ rfl, h.obj.at' 3 _ rfl, h.obj.at' 4 _ rfl, h.obj.at' 5 _ rfl⟩
  clear h hf
  go_enter Tryz.func47, Tryz.ntmps47
  go_wp2_with fail
  go_ret
  exact ⟨rfl, below_new (Below.refl _ _) _⟩
set_option maxRecDepth 100000 in
set_option maxHeartbeats 4000000 in
theorem amay_num5 (h : WAt w wb bc bg t s so d N n f g) (hf : e.Fit) (j : Int) (b : Bool) (hb : b = true ↔ MayN so j e) (hway : so = 1 ∧ e.op ≠ 0 ∧ e.op ≠ 1) :
    Calls Tryz.prog 47 #[pt wb, e.v, i64 j] w fun r w' => r = .returned (.bool b) ∧ Below w.heap.size w w' := by
  obtain ⟨gs, gn0, gn1⟩ := hway
  obtain rfl : b = false := by
    cases b with
    | false => rfl
    | true => exact absurd (hb.1 rfl) (by unfold MayN inc64; omega)
  have s0x : (so == 0) = false := by simp [gs]
  have s1x : (so == 1) = true := by simp [gs]
  have s2x : (so == 2) = false := by simp [gs]
  have z0 : (e.op == 0) = false := beq_false_of_ne gn0
  have z1 : (e.op == 1) = false := beq_false_of_ne gn1
  obtain ⟨zz2, z2⟩ : ∃ z, (e.op == 2) = z := ⟨_, rfl⟩
  obtain ⟨zz3, z3⟩ : ∃ z, (e.op == 3) = z := ⟨_, rfl⟩
  clear hb gn0 gn1 gs
  have hwb := h.obj.lt
  obtain ⟨q0, q1, q2, q3, q4, q5⟩ : _ ∧ _ ∧ _ ∧ _ ∧ _ ∧ _ := ⟨h.obj.at' 0 _ rfl, h.obj.at' 1 _ rfl, h.obj.at' 2 _ rfl, h.obj.at' 3 _ rfl, h.obj.at' 4 _ rfl, h.obj.at' 5 _ rfl⟩
  clear h hf
  go_enter Tryz.func47, Tryz.ntmps47
  go_wp2_with fail
  go_ret
  exact ⟨rfl, below_new (Below.refl _ _) _⟩
set_option maxRecDepth 100000 in
set_option maxHeartbeats 4000000 in
theorem amay_num6 (h : WAt w wb bc bg t s so d N n f g) (hf : e.Fit) (j : Int) (b : Bool) (hb : b = true ↔ MayN so j e) (hway : so = 1 ∧ e.op = 1 ∧ e.who ≠ j) :
    Calls Tryz.prog 47 #[pt wb, e.v, i64 j] w fun r w' => r = .returned (.bool b) ∧ Below w.heap.size w w' := by
  obtain ⟨gs, gop, gw⟩ := hway
  obtain rfl : b = false := by
    cases b with
    | false => rfl
    | true => exact absurd (hb.1 rfl) (by unfold MayN inc64; omega)
  have s0x : (so == 0) = false := by simp [gs]
  have s1x : (so == 1) = true := by simp [gs]
  have s2x : (so == 2) = false := by simp [gs]
  have z0 : (e.op == 0) = false := by simp [gop]
  have z1 : (e.op == 1) = true := by simp [gop]
  have z2 : (e.op == 2) = false := by simp [gop]
  have z3 : (e.op == 3) = false := by simp [gop]
  have w0 : (e.who == j) = false := beq_false_of_ne gw
  clear hb gop gw gs
  have hwb := h.obj.lt
  obtain ⟨q0, q1, q2, q3, q4, q5⟩ : _ ∧ _ ∧ _ ∧ _ ∧ _ ∧ _ := ⟨h.obj.at' 0 _ rfl, h.obj.at' 1 _ rfl, h.obj.at' 2 _ rfl, h.obj.at' 3 _ rfl, h.obj.at' 4 _ rfl, h.obj.at' 5 _ rfl⟩
  clear h hf
  go_enter Tryz.func47, Tryz.ntmps47
  go_wp2_with fail
  go_ret
  exact ⟨rfl, below_new (Below.refl _ _) _⟩
set_option maxRecDepth 100000 in
set_option maxHeartbeats 4000000 in
theorem amay_num7 (h : WAt w wb bc bg t s so d N n f g) (hf : e.Fit) (j : Int) (b : Bool) (hb : b = true ↔ MayN so j e) (hway : so = 1 ∧ e.op = 1 ∧ e.who = j ∧ ¬ e.old < e.new) :
    Calls Tryz.prog 47 #[pt wb, e.v, i64 j] w fun r w' => r = .returned (.bool b) ∧ Below w.heap.size w w' := by
  obtain ⟨gs, gop, gw, gx⟩ := hway
  obtain rfl : b = false := by
    cases b with
    | false => rfl
    | true => exact absurd (hb.1 rfl) (by unfold MayN inc64; omega)
  have s0x : (so == 0) = false := by simp [gs]
  have s1x : (so == 1) = true := by simp [gs]
  have s2x : (so == 2) = false := by simp [gs]
  have z0 : (e.op == 0) = false := by simp [gop]
  have z1 : (e.op == 1) = true := by simp [gop]
  have z2 : (e.op == 2) = false := by simp [gop]
  have z3 : (e.op == 3) = false := by simp [gop]
  have w0 : (e.who == j) = true := beq_iff_eq.2 gw
  have v0 : decide (e.old < e.new) = false := decide_eq_false gx
  clear hb gop gw gs
  have hwb := h.obj.lt
  obtain ⟨q0, q1, q2, q3, q4, q5⟩ : _ ∧ _ ∧ _ ∧ _ ∧ _ ∧ _ := ⟨h.obj.at' 0 _ rfl, h.obj.at' 1 _ rfl, h.obj.at' 2 _ rfl, h.obj.at' 3 _ rfl, h.obj.at' 4 _ rfl, h.obj.at' 5 _ rfl⟩
  clear h hf
  go_enter Tryz.func47, Tryz.ntmps47
  go_wp2_with fail
  go_ret
  exact ⟨rfl, below_new (Below.refl _ _) _⟩
set_option maxRecDepth 100000 in
set_option maxHeartbeats 4000000 in
theorem amay_num8 (h : WAt w wb bc bg t s so d N n f g) (hf : e.Fit) (j : Int) (b : Bool) (hb : b = true ↔ MayN so j e) (hway : so = 1 ∧ e.op = 1 ∧ e.who = j ∧ e.old < e.new) :
    Calls Tryz.prog 47 #[pt wb, e.v, i64 j] w fun r w' => r = .returned (.bool b) ∧ Below w.heap.size w w' := by
  obtain ⟨gs, gop, gw, gx⟩ := hway
  obtain rfl : b = true := hb.2 (.inr (.inl ⟨gs, .inr ⟨gop, gw, gx⟩⟩))
  have s0x : (so == 0) = false := by simp [gs]
  have s1x : (so == 1) = true := by simp [gs]
  have s2x : (so == 2) = false := by simp [gs]
  have z0 : (e.op == 0) = false := by simp [gop]
  have z1 : (e.op == 1) = true := by simp [gop]
  have z2 : (e.op == 2) = false := by simp [gop]
  have z3 : (e.op == 3) = false := by simp [gop]
  have w0 : (e.who == j) = true := beq_iff_eq.2 gw
  have v0 : decide (e.old < e.new) = true := decide_eq_true gx
  clear hb gop gw gs
  have hwb := h.obj.lt
  obtain ⟨q0, q1, q2, q3, q4, q5⟩ : _ ∧ _ ∧ _ ∧ _ ∧ _ ∧ _ := ⟨h.obj.at' 0 _ rfl, h.obj.at' 1 _ rfl, h.obj.at' 2 _ rfl, h.obj.at' 3 _ rfl, h.obj.at' 4 _ rfl, h.obj.at' 5 _ rfl⟩
  clear h hf
  go_enter Tryz.func47, Tryz.ntmps47
  go_wp2_with fail
  go_ret
  exact ⟨rfl, below_new (Below.refl _ _) _⟩
set_option maxRecDepth 100000 in
set_option maxHeartbeats 4000000 in
theorem amay_num9 (h : WAt w wb bc bg t s so d N n f g) (hf : e.Fit) (j : Int) (b : Bool) (hb : b = true ↔ MayN so j e) (hway : so = 2 ∧ j ≠ 0) :
    Calls Tryz.prog 47 #[pt wb, e.v, i64 j] w fun r w' => r = .returned (.bool b) ∧ Below w.heap.size w w' := by
  obtain ⟨gs, gj⟩ := hway
  obtain rfl : b = false := by
    cases b with
    | false => rfl
    | true => exact absurd (hb.1 rfl) (by unfold MayN inc64; omega)
  have s0x : (so == 0) = false := by simp [gs]
  have s1x : (so == 1) = false := by simp [gs]
  have s2x : (so == 2) = true := by simp [gs]
  have j0 : (j == 0) = false := beq_false_of_ne gj
  clear hb gj gs
  have hwb := h.obj.lt
  obtain ⟨q0, q1, q2, q3, q4, q5⟩ : _ ∧ _ ∧ _ ∧ _ ∧ _ ∧ _ := ⟨h.obj.at' 0 _ rfl, h.obj.at' 1 _ rfl, h.obj.at' 2 _ rfl, h.obj.at' 3 _ rfl, h.obj.at' 4 _ rfl, h.obj.at' 5 _ rfl⟩
  clear h hf
  go_enter Tryz.func47, Tryz.ntmps47
  go_wp2_with fail
  go_ret
  exact ⟨rfl, below_new (Below.refl _ _) _⟩
set_option maxRecDepth 100000 in
set_option maxHeartbeats 4000000 in
theorem amay_num10 (h : WAt w wb bc bg t s so d N n f g) (hf : e.Fit) (j : Int) (b : Bool) (hb : b = true ↔ MayN so j e) (hway : so = 2 ∧ j = 0 ∧ e.op = 0) :
    Calls Tryz.prog 47 #[pt wb, e.v, i64 j] w fun r w' => r = .returned (.bool b) ∧ Below w.heap.size w w' := by
  obtain ⟨gs, gj, gop⟩ := hway
  obtain rfl : b = true := hb.2 (.inr (.inr ⟨gs, gj, .inl gop⟩))
  have s0x : (so == 0) = false := by simp [gs]
  have s1x : (so == 1) = false := by simp [gs]
  have s2x : (so == 2) = true := by simp [gs]
  have j0 : (j == 0) = true := by simp [gj]
  have z0 : (e.op == 0) = true := by simp [gop]
  have z1 : (e.op == 1) = false := by simp [gop]
  have z2 : (e.op == 2) = false := by simp [gop]
  have z3 : (e.op == 3) = false := by simp [gop]
  clear hb gj gop gs
  have hwb := h.obj.lt
  obtain ⟨q0, q1, q2, q3, q4, q5⟩ : _ ∧ _ ∧ _ ∧ _ ∧ _ ∧ _ := ⟨h.obj.at' 0 _ rfl, h.obj.at' 1 _ rfl, h.obj.at' 2 _ rfl, h.obj.at' 3 _ rfl, h.obj.at' 4 _ rfl, h.obj.at' 5 _ rfl⟩
  clear h hf
  go_enter Tryz.func47, Tryz.ntmps47
  go_wp2_with fail
  go_ret
  exact ⟨rfl, below_new (Below.refl _ _) _⟩
set_option maxRecDepth 100000 in
set_option maxHeartbeats 4000000 in
theorem amay_num11 (h : WAt w wb bc bg t s so d N n f g) (hf : e.Fit) (j : Int) (b : Bool) (hb : b = true ↔ MayN so j e) (hway : so = 2 ∧ j = 0 ∧ e.op ≠ 0 ∧ e.op ≠ 2) :
    Calls Tryz.prog 47 #[pt wb, e.v, i64 j] w fun r w' => r = .returned (.bool b) ∧ Below w.heap.size w w' := by
  obtain ⟨gs, gj, gn0, gn2⟩ := hway
  obtain rfl : b = false := by
    cases b with
    | false => rfl
    | true => exact absurd (hb.1 rfl) (by unfold MayN inc64; omega)
  have s0x : (so == 0) = false := by simp [gs]
  have s1x : (so == 1) = false := by simp [gs]
  have s2x : (so == 2) = true := by simp [gs]
  have j0 : (j == 0) = true := by simp [gj]
  have z0 : (e.op == 0) = false := beq_false_of_ne gn0
  obtain ⟨zz1, z1⟩ : ∃ z, (e.op == 1) = z := ⟨_, rfl⟩
  have z2 : (e.op == 2) = false := beq_false_of_ne gn2
  obtain ⟨zz3, z3⟩ : ∃ z, (e.op == 3) = z := ⟨_, rfl⟩
  clear hb gj gn0 gn2 gs
  have hwb := h.obj.lt
  obtain ⟨q0, q1, q2, q3, q4, q5⟩ : _ ∧ _ ∧ _ ∧ _ ∧ _ ∧ _ := ⟨h.obj.at' 0 _ rfl, h.obj.at' 1 _ rfl, h.obj.at' 2 _ rfl, h.obj.at' 3 _ rfl, h.obj.at' 4 _ rfl, h.obj.at' 5 _ rfl⟩
  clear h hf
  go_enter Tryz.func47, Tryz.ntmps47
  go_wp2_with fail
  go_ret
  exact ⟨rfl, below_new (Below.refl _ _) _⟩
set_option maxRecDepth 100000 in
set_option maxHeartbeats 4000000 in
theorem amay_num12 (h : WAt w wb bc bg t s so d N n f g) (hf : e.Fit) (j : Int) (b : Bool) (hb : b = true ↔ MayN so j e) (hway : so = 2 ∧ j = 0 ∧ e.op = 2 ∧ e.ok = false) :
    Calls Tryz.prog 47 #[pt wb, e.v, i64 j] w fun r w' => r = .returned (.bool b) ∧ Below w.heap.size w w' := by
  obtain ⟨gs, gj, gop, gk⟩ := hway
  obtain rfl : b = true := hb.2 (.inr (.inr ⟨gs, gj, .inr ⟨gop, .inl gk⟩⟩))
  have s0x : (so == 0) = false := by simp [gs]
  have s1x : (so == 1) = false := by simp [gs]
  have s2x : (so == 2) = true := by simp [gs]
  have j0 : (j == 0) = true := by simp [gj]
  have z0 : (e.op == 0) = false := by simp [gop]
  have z1 : (e.op == 1) = false := by simp [gop]
  have z2 : (e.op == 2) = true := by simp [gop]
  have z3 : (e.op == 3) = false := by simp [gop]
  have GK := Lib.hid gk
  clear hb gj gop gs gk
  have hwb := h.obj.lt
  obtain ⟨q0, q1, q2, q3, q4, q5⟩ : _ ∧ _ ∧ _ ∧ _ ∧ _ ∧ _ := ⟨h.obj.at' 0 _ rfl, h.obj.at' 1 _ rfl, h.obj.at' 2 _ rfl, h.obj.at' 3 _ rfl, h.obj.at' 4 _ rfl, h.obj.at' 5 _ rfl⟩
  clear h hf
  go_enter Tryz.func47, Tryz.ntmps47
  have gk := GK.out
  go_wp2_with fail
  go_ret
  exact ⟨rfl, below_new (Below.refl _ _) _⟩
set_option maxRecDepth 100000 in
set_option maxHeartbeats 4000000 in
theorem amay_num13 (h : WAt w wb bc bg t s so d N n f g) (hf : e.Fit) (j : Int) (b : Bool) (hb : b = true ↔ MayN so j e) (hway : so = 2 ∧ j = 0 ∧ e.op = 2 ∧ e.ok = true ∧ e.new ≠ IntKind.u64.wrap (e.old + 1)) :
    Calls Tryz.prog 47 #[pt wb, e.v, i64 j] w fun r w' => r = .returned (.bool b) ∧ Below w.heap.size w w' := by
  obtain ⟨gs, gj, gop, gk, gx⟩ := hway
  obtain rfl : b = false := by
    cases b with
    | false => rfl
    | true =>
      rcases hb.1 rfl with ⟨q, _⟩ | ⟨q, _⟩ | ⟨_, _, q | ⟨_, q | q⟩⟩
      · omega
      · omega
      · omega
      · rw [gk] at q; cases q
      · exact absurd q gx
  have s0x : (so == 0) = false := by simp [gs]
  have s1x : (so == 1) = false := by simp [gs]
  have s2x : (so == 2) = true := by simp [gs]
  have j0 : (j == 0) = true := by simp [gj]
  have z0 : (e.op == 0) = false := by simp [gop]
  have z1 : (e.op == 1) = false := by simp [gop]
  have z2 : (e.op == 2) = true := by simp [gop]
  have z3 : (e.op == 3) = false := by simp [gop]
  have n0 : (e.new == IntKind.u64.wrap (e.old + 1)) = false := beq_false_of_ne gx
  have GK := Lib.hid gk
  clear hb gj gop gx gs gk
  have hwb := h.obj.lt
  obtain ⟨q0, q1, q2, q3, q4, q5⟩ : _ ∧ _ ∧ _ ∧ _ ∧ _ ∧ _ := ⟨h.obj.at' 0 _ rfl, h.obj.at' 1 _ rfl, h.obj.at' 2 _ rfl, h.obj.at' 3 _ rfl, h.obj.at' 4 _ rfl, h.obj.at' 5 _ rfl⟩
  clear h hf
  go_enter Tryz.func47, Tryz.ntmps47
  have gk := GK.out
  go_wp2_with fail
  go_ret
  exact ⟨rfl, below_new (Below.refl _ _) _⟩
set_option maxRecDepth 100000 in
set_option maxHeartbeats 4000000 in
theorem amay_num14 (h : WAt w wb bc bg t s so d N n f g) (hf : e.Fit) (j : Int) (b : Bool) (hb : b = true ↔ MayN so j e) (hway : so = 2 ∧ j = 0 ∧ e.op = 2 ∧ e.ok = true ∧ e.new = IntKind.u64.wrap (e.old + 1)) :
    Calls Tryz.prog 47 #[pt wb, e.v, i64 j] w fun r w' => r = .returned (.bool b) ∧ Below w.heap.size w w' := by
  obtain ⟨gs, gj, gop, gk, gx⟩ := hway
  obtain rfl : b = true := hb.2 (.inr (.inr ⟨gs, gj, .inr ⟨gop, .inr gx⟩⟩))
  have s0x : (so == 0) = false := by simp [gs]
  have s1x : (so == 1) = false := by simp [gs]
  have s2x : (so == 2) = true := by simp [gs]
  have j0 : (j == 0) = true := by simp [gj]
  have z0 : (e.op == 0) = false := by simp [gop]
  have z1 : (e.op == 1) = false := by simp [gop]
  have z2 : (e.op == 2) = true := by simp [gop]
  have z3 : (e.op == 3) = false := by simp [gop]
  have n0 : (e.new == IntKind.u64.wrap (e.old + 1)) = true := by simp [gx]
  have GK := Lib.hid gk
  clear hb gj gop gx gs gk
  have hwb := h.obj.lt
  obtain ⟨q0, q1, q2, q3, q4, q5⟩ : _ ∧ _ ∧ _ ∧ _ ∧ _ ∧ _ := ⟨h.obj.at' 0 _ rfl, h.obj.at' 1 _ rfl, h.obj.at' 2 _ rfl, h.obj.at' 3 _ rfl, h.obj.at' 4 _ rfl, h.obj.at' 5 _ rfl⟩
  clear h hf
  go_enter Tryz.func47, Tryz.ntmps47
  have gk := GK.out
  go_wp2_with fail
  go_ret
  exact ⟨rfl, below_new (Below.refl _ _) _⟩
set_option maxRecDepth 100000 in
set_option maxHeartbeats 4000000 in
theorem amay_num15 (h : WAt w wb bc bg t s so d N n f g) (hf : e.Fit) (j : Int) (b : Bool) (hb : b = true ↔ MayN so j e) (hway : so ≠ 0 ∧ so ≠ 1 ∧ so ≠ 2) :
    Calls Tryz.prog 47 #[pt wb, e.v, i64 j] w fun r w' => r = .returned (.bool b) ∧ Below w.heap.size w w' := by
  obtain ⟨gs0, gs1, gs2⟩ := hway
  obtain rfl : b = false := by
    cases b with
    | false => rfl
    | true => exact absurd (hb.1 rfl) (by unfold MayN inc64; omega)
  have s0x : (so == 0) = false := beq_false_of_ne gs0
  have s1x : (so == 1) = false := beq_false_of_ne gs1
  have s2x : (so == 2) = false := beq_false_of_ne gs2
  clear hb gs0 gs1 gs2
  have hwb := h.obj.lt
  obtain ⟨q0, q1, q2, q3, q4, q5⟩ : _ ∧ _ ∧ _ ∧ _ ∧ _ ∧ _ := ⟨h.obj.at' 0 _ rfl, h.obj.at' 1 _ rfl, h.obj.at' 2 _ rfl, h.obj.at' 3 _ rfl, h.obj.at' 4 _ rfl, h.obj.at' 5 _ rfl⟩
  clear h hf
  go_enter Tryz.func47, Tryz.ntmps47
  go_wp2_with fail
  go_ret
  exact ⟨rfl, below_new (Below.refl _ _) _⟩
theorem amay_number (h : WAt w wb bc bg t s so d N n f g) (hf : e.Fit) (j : Int) (b : Bool) (hb : b = true ↔ MayN so j e) :
    Calls Tryz.prog 47 #[pt wb, e.v, i64 j] w fun r w' => r = .returned (.bool b) ∧ Below w.heap.size w w' := by
  by_cases q0 : so = 0
  · by_cases q4 : j = 0
    · by_cases q8 : e.op = 3
      · by_cases q11 : e.new = IntKind.u64.wrap (e.old + 1)
        · exact amay_num3 h hf j b hb ⟨q0, q4, q8, q11⟩
        · exact amay_num2 h hf j b hb ⟨q0, q4, q8, q11⟩
      · exact amay_num1 h hf j b hb ⟨q0, q4, q8⟩
    · exact amay_num0 h hf j b hb ⟨q0, q4⟩
  by_cases q1 : so = 1
  · by_cases q5 : e.op = 0
    · exact amay_num4 h hf j b hb ⟨q1, q5⟩
    by_cases q6 : e.op = 1
    · by_cases q9 : e.who = j
      · by_cases q10 : e.old < e.new
        · exact amay_num8 h hf j b hb ⟨q1, q6, q9, q10⟩
        · exact amay_num7 h hf j b hb ⟨q1, q6, q9, q10⟩
      · exact amay_num6 h hf j b hb ⟨q1, q6, q9⟩
    · exact amay_num5 h hf j b hb ⟨q1, q5, q6⟩
  by_cases q2 : so = 2
  · by_cases q4 : j = 0
    · by_cases q5 : e.op = 0
      · exact amay_num10 h hf j b hb ⟨q2, q4, q5⟩
      by_cases q7 : e.op = 2
      · cases q12 : e.ok
        · exact amay_num12 h hf j b hb ⟨q2, q4, q7, q12⟩
        · by_cases q11 : e.new = IntKind.u64.wrap (e.old + 1)
          · exact amay_num14 h hf j b hb ⟨q2, q4, q7, q12, q11⟩
          · exact amay_num13 h hf j b hb ⟨q2, q4, q7, q12, q11⟩
      · exact amay_num11 h hf j b hb ⟨q2, q4, q5, q7⟩
    · exact amay_num9 h hf j b hb ⟨q2, q4⟩
  exact amay_num15 h hf j b hb ⟨q0, q1, q2⟩
end
end Go.Proofs.YtpbpkmmhdfahnaaGreat
