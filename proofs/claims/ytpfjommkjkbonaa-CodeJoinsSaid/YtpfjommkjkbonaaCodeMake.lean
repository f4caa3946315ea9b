/-
  A move as the laws make it. No condition.
-/
import Derived.Test.YtpfjommkjkbonaaCodeCalls
import Derived.Test.YtpfjommkjkbonaaHoldCore
import Derived.Test.YtpfjommkjkbonaaBits
import Derived.Test.YtpfjommkjkbonaaBitsMore
import Derived.Deep.DeepCutAuto
import Derived.Deep.CutBlock
namespace Go.Proofs.Ytpfjommkjkbonaa
open Go.RowKit
set_option linter.unusedVariables false

/-- What a move is made of. -/
structure LM where
  kind : Int
  who : Int
  n : Int
  start : Int
  take : Bool
  right : Bool
  value : Int
  odd : Int
abbrev LM.val (v : LM) : Value := .agg #[.int .i64 v.kind, .int .i64 v.who, .int .i64 v.n, .int .i64 v.start, .bool v.take, .bool v.right, .int .u64 v.value, .int .i64 v.odd]
abbrev LM.obj (v : LM) (T : TypeId) : Obj := .cells #[.int .i64 v.kind, .int .i64 v.who, .int .i64 v.n, .int .i64 v.start, .bool v.take, .bool v.right, .int .u64 v.value, .int .i64 v.odd] T
def LM.list (v : LM) : List Value := [.int .i64 v.kind, .int .i64 v.who, .int .i64 v.n, .int .i64 v.start, .bool v.take, .bool v.right, .int .u64 v.value, .int .i64 v.odd]
/-- Its kind. -/
def LM.k (v : LM) : Int := IntKind.u64.wrap v.kind % 3
def LM.base (v : LM) : CM :=
  if v.k = 0 then (if v.take then ⟨0, v.who % 64, 1, if v.right then 1 else 0, 0, v.start % 256, 0⟩ else ⟨0, v.who % 64, 0, if v.right then 1 else 0, v.value, 0, 0⟩)
  else if v.k = 2 then ⟨2, 0, 0, 0, 0, 0, 1 + v.n % 32768⟩ else ⟨1, v.who % 64, 0, 0, 0, 0, 0⟩
def LM.turn (v : LM) (m : CM) : CM :=
  if v.odd % 32 = 1 then { m with k := v.kind } else if v.odd % 32 = 2 then { m with who := v.who } else if v.odd % 32 = 3 then { m with n := v.n } else if v.odd % 32 = 4 then { m with st := v.start } else if v.odd % 32 = 5 then { m with v := v.value }
  else if v.odd % 32 = 6 then { m with ck := v.n } else if v.odd % 32 = 7 then { m with ce := v.n } else m
def LM.make (v : LM) : CM := v.turn v.base
theorem LM.k_cases (v : LM) : v.k = 0 ∨ v.k = 1 ∨ v.k = 2 := by unfold LM.k; omega
theorem LM.even {v : LM} (h : v.odd = 0) : v.make = v.base := by
  unfold LM.make LM.turn
  rw [h]
  rfl

/-- The boxes of a move that is made. -/
structure MkBx (w wx : World) (v : LM) : Prop where
  below : Below w.heap.size w wx
  arg : IsObj wx w.heap.size v.list
  res : IsObj wx (w.heap.size + 1) [.int .i64 0, .int .i64 0, .int .i64 0, .int .i64 0, .int .u64 0, .int .i64 0, .int .i64 0]
theorem MkBx.set {w wx : World} {v : LM} (h : MkBx w wx v) (j : Nat) (u : Value) : MkBx w (wx.setCell ⟨w.heap.size + 1 + 1, j, none⟩ u) v :=
  ⟨below_set h.below (by show w.heap.size ≤ w.heap.size + 1 + 1; omega) u, h.arg.other j u (by omega), h.res.other j u (by omega)⟩
structure MkAt (w wx : World) (v : LM) (m : CM) : Prop where
  bx : MkBx w wx v
  obj : IsObj wx (w.heap.size + 1 + 1) [.int .i64 m.k, .int .i64 m.who, .int .i64 m.ck, .int .i64 m.ce, .int .u64 m.v, .int .i64 m.st, .int .i64 m.n]

set_option maxRecDepth 100000 in
set_option maxHeartbeats 8000000 in
theorem make18_any (v : LM) (w : World) : Calls Try.prog 10 #[v.val] w fun r w' => r = .returned v.make.val ∧ Below w.heap.size w w' := by
  have hb : (v.k = 0 ∧ v.take = false ∧ v.base = ⟨0, v.who % 64, 0, if v.right then 1 else 0, v.value, 0, 0⟩) ∨ (v.k = 0 ∧ v.take = true ∧ v.base = ⟨0, v.who % 64, 1, if v.right then 1 else 0, 0, v.start % 256, 0⟩) ∨ (v.k = 1 ∧ v.base = ⟨1, v.who % 64, 0, 0, 0, 0, 0⟩) ∨ (v.k = 2 ∧ v.base = ⟨2, 0, 0, 0, 0, 0, 1 + v.n % 32768⟩) := by
    rcases v.k_cases with h | h | h
    · cases ht : v.take
      · exact .inl ⟨h, rfl, by unfold LM.base; rw [if_pos h, ht]; rfl⟩
      · exact .inr (.inl ⟨h, rfl, by unfold LM.base; rw [if_pos h, ht]; rfl⟩)
    · exact .inr (.inr (.inl ⟨h, by unfold LM.base; rw [if_neg (by omega), if_neg (by omega)]⟩))
    · exact .inr (.inr (.inr ⟨h, by unfold LM.base; rw [if_neg (by omega), if_pos h]⟩))
  have ho : (v.odd % 32 = 1 ∧ v.make = { v.base with k := v.kind }) ∨ (v.odd % 32 = 2 ∧ v.make = { v.base with who := v.who }) ∨ (v.odd % 32 = 3 ∧ v.make = { v.base with n := v.n }) ∨ (v.odd % 32 = 4 ∧ v.make = { v.base with st := v.start }) ∨ (v.odd % 32 = 5 ∧ v.make = { v.base with v := v.value }) ∨ (v.odd % 32 = 6 ∧ v.make = { v.base with ck := v.n }) ∨ (v.odd % 32 = 7 ∧ v.make = { v.base with ce := v.n }) ∨ ((v.odd % 32 = 0 ∨ 8 ≤ v.odd % 32) ∧ v.make = v.base) := by
    unfold LM.make LM.turn
    by_cases h1 : v.odd % 32 = 1
    · exact .inl ⟨h1, by rw [if_pos h1]⟩
    rw [if_neg h1]
    by_cases h2 : v.odd % 32 = 2
    · exact .inr (.inl ⟨h2, by rw [if_pos h2]⟩)
    rw [if_neg h2]
    by_cases h3 : v.odd % 32 = 3
    · exact .inr (.inr (.inl ⟨h3, by rw [if_pos h3]⟩))
    rw [if_neg h3]
    by_cases h4 : v.odd % 32 = 4
    · exact .inr (.inr (.inr (.inl ⟨h4, by rw [if_pos h4]⟩)))
    rw [if_neg h4]
    by_cases h5 : v.odd % 32 = 5
    · exact .inr (.inr (.inr (.inr (.inl ⟨h5, by rw [if_pos h5]⟩))))
    rw [if_neg h5]
    by_cases h6 : v.odd % 32 = 6
    · exact .inr (.inr (.inr (.inr (.inr (.inl ⟨h6, by rw [if_pos h6]⟩)))))
    rw [if_neg h6]
    by_cases h7 : v.odd % 32 = 7
    · exact .inr (.inr (.inr (.inr (.inr (.inr (.inl ⟨h7, by rw [if_pos h7]⟩))))))
    rw [if_neg h7]
    exact .inr (.inr (.inr (.inr (.inr (.inr (.inr ⟨by omega, rfl⟩))))))
  unfold LM.val
  generalize v.make = M at ho ⊢
  generalize v.base = b0 at hb ho
  unfold LM.k at hb
  obtain ⟨kind, who, n, start, take, right, value, odd⟩ := v
  simp only at hb ho ⊢
  obtain ⟨q, hq⟩ : ∃ q, IntKind.u64.wrap kind % 3 = q := ⟨_, rfl⟩
  have hq1 : (IntKind.u64.wrap kind).tmod 3 = q := by rw [Int.tmod_eq_emod_of_nonneg (by rw [IntKind.wrap_u64]; omega)]; exact hq
  have hq3 : IntKind.i64.wrap q = q := by rw [← hq]; exact IntWalk.i64_in _ (by omega)
  rw [hq] at hb
  clear hq
  have a63 : bits .and .i64 who 63 = who % 64 := and_63 who
  have a255 : bits .and .i64 start 255 = start % 256 := and_255 start
  have a7fff : bits .and .i64 n 32767 = n % 32768 := and_7fff n
  have a31 : bits .and .i64 odd 31 = odd % 32 := and_31 odd
  have HBs := Lib.hid hb
  have HOd := Lib.hid ho
  clear hb ho
  have HB3 := Lib.hid (below_new (below_new (below_new (Below.refl w.heap.size w) ((⟨kind, who, n, start, take, right, value, odd⟩ : LM).obj 33)) (.cells #[.int .i64 0, .int .i64 0, .int .i64 0, .int .i64 0, .int .u64 0, .int .i64 0, .int .i64 0] 40)) (.cells #[.int .i64 q, .int .i64 (who % 64), .int .i64 0, .int .i64 0, .int .u64 0, .int .i64 0, .int .i64 0] 40))
  go_enter Try.func10, Try.ntmps10
  go_upto_block 0 with fail
  have h3 := IsObj.made ((w.alloc ((⟨kind, who, n, start, take, right, value, odd⟩ : LM).obj 33)).alloc (.cells #[.int .i64 0, .int .i64 0, .int .i64 0, .int .i64 0, .int .u64 0, .int .i64 0, .int .i64 0] 40)) [.int .i64 q, .int .i64 (who % 64), .int .i64 0, .int .i64 0, .int .u64 0, .int .i64 0, .int .i64 0] 40
  have h2 := (IsObj.made (w.alloc ((⟨kind, who, n, start, take, right, value, odd⟩ : LM).obj 33)) [.int .i64 0, .int .i64 0, .int .i64 0, .int .i64 0, .int .u64 0, .int .i64 0, .int .i64 0] 40).later (below_new (Below.refl _ _) (.cells #[.int .i64 q, .int .i64 (who % 64), .int .i64 0, .int .i64 0, .int .u64 0, .int .i64 0, .int .i64 0] 40))
  have h1 := ((IsObj.made w [.int .i64 kind, .int .i64 who, .int .i64 n, .int .i64 start, .bool take, .bool right, .int .u64 value, .int .i64 odd] 33).later (below_new (Below.refl _ _) (.cells #[.int .i64 0, .int .i64 0, .int .i64 0, .int .i64 0, .int .u64 0, .int .i64 0, .int .i64 0] 40))).later (below_new (Below.refl _ _) (.cells #[.int .i64 q, .int .i64 (who % 64), .int .i64 0, .int .i64 0, .int .u64 0, .int .i64 0, .int .i64 0] 40))
  simp only [World.size_alloc] at h3 h2
  have H1 := Lib.hid h1
  have H2 := Lib.hid h2
  have H3 := Lib.hid h3
  clear h1 h2 h3
  generalize (((w.alloc (.cells #[.int .i64 kind, .int .i64 who, .int .i64 n, .int .i64 start, .bool take, .bool right, .int .u64 value, .int .i64 odd] 33)).alloc (.cells #[.int .i64 0, .int .i64 0, .int .i64 0, .int .i64 0, .int .u64 0, .int .i64 0, .int .i64 0] 40)).alloc (.cells #[.int .i64 q, .int .i64 (who % 64), .int .i64 0, .int .i64 0, .int .u64 0, .int .i64 0, .int .i64 0] 40)) = w3 at H1 H2 H3 HB3 ⊢
  go_cut [] (fun wx => Hid (MkAt w wx ⟨kind, who, n, start, take, right, value, odd⟩ b0))
  case first =>
    have q0 := H3.out.at' 0 _ rfl
    have q1 := H3.out.at' 1 _ rfl
    have q2 := H3.out.at' 2 _ rfl
    have q3 := H3.out.at' 3 _ rfl
    have q4 := H3.out.at' 4 _ rfl
    have q5 := H3.out.at' 5 _ rfl
    have q6 := H3.out.at' 6 _ rfl
    have f0 := H3.out.fz 0
    have f1 := H3.out.fz 1
    have f2 := H3.out.fz 2
    have f3 := H3.out.fz 3
    have f4 := H3.out.fz 4
    have f5 := H3.out.fz 5
    have f6 := H3.out.fz 6
    have x2 := H1.out.at' 2 _ rfl
    have x3 := H1.out.at' 3 _ rfl
    have x4 := H1.out.at' 4 _ rfl
    have x5 := H1.out.at' 5 _ rfl
    have x6 := H1.out.at' 6 _ rfl
    have hl3 := H3.out.lt
    have hd : ∀ (j : Nat) (u : Value) (wx : World), MkBx w wx ⟨kind, who, n, start, take, right, value, odd⟩ → MkBx w (wx.setCell ⟨w.heap.size + 1 + 1, j, none⟩ u) ⟨kind, who, n, start, take, right, value, odd⟩ := fun j u wx h => h.set j u
    have HD := Lib.hid hd
    have HX := Lib.hid (show MkBx w w3 ⟨kind, who, n, start, take, right, value, odd⟩ from ⟨HB3.out, H1.out, H2.out⟩)
    clear hd
    rcases HBs.out with ⟨rfl, rfl, rfl⟩ | ⟨rfl, rfl, rfl⟩ | ⟨rfl, rfl⟩ | ⟨rfl, rfl⟩
    · cases right
      · go_wp2_with fail
        go_meet
        exact Lib.hid ⟨HD.out _ _ _ HX.out, H3.out.set 4 _⟩
      · go_wp2_with fail
        go_meet
        exact Lib.hid ⟨HD.out _ _ _ (HD.out _ _ _ HX.out), (H3.out.set 4 _).set 3 _⟩
    · cases right
      · go_wp2_with fail
        go_meet
        exact Lib.hid ⟨(HD.out _ _ _ (HD.out _ _ _ (HD.out _ _ _ (HD.out _ _ _ (HD.out _ _ _ HX.out))))), (((((H3.out.set 4 _).set 2 _).set 3 _).set 4 _).set 5 _)⟩
      · go_wp2_with fail
        go_meet
        exact Lib.hid ⟨HD.out _ _ _ (HD.out _ _ _ (HD.out _ _ _ (HD.out _ _ _ (HD.out _ _ _ (HD.out _ _ _ HX.out))))), (((((H3.out.set 4 _).set 2 _).set 3 _).set 4 _).set 5 _).set 3 _⟩
    · go_wp2_with fail
      go_meet
      exact Lib.hid ⟨HX.out, H3.out⟩
    · have hwn : IntKind.i64.wrap (1 + n % 32768) = 1 + n % 32768 := IntWalk.i64_in _ (by omega)
      go_wp2_with fail
      go_meet
      exact Lib.hid ⟨HD.out _ _ _ (HD.out _ _ _ HX.out), (H3.out.set 1 _).set 6 _⟩
  case rest =>
    clear H1 H2 H3 HB3 HBs
    have HM := hcut
    clear hcut
    have q0 := HM.out.obj.at' 0 _ rfl
    have q1 := HM.out.obj.at' 1 _ rfl
    have q2 := HM.out.obj.at' 2 _ rfl
    have q3 := HM.out.obj.at' 3 _ rfl
    have q4 := HM.out.obj.at' 4 _ rfl
    have q5 := HM.out.obj.at' 5 _ rfl
    have q6 := HM.out.obj.at' 6 _ rfl
    have f0 := HM.out.obj.fz 0
    have f1 := HM.out.obj.fz 1
    have f2 := HM.out.obj.fz 2
    have f3 := HM.out.obj.fz 3
    have f4 := HM.out.obj.fz 4
    have f5 := HM.out.obj.fz 5
    have f6 := HM.out.obj.fz 6
    have x0 := HM.out.bx.arg.at' 0 _ rfl
    have x1 := HM.out.bx.arg.at' 1 _ rfl
    have x2 := HM.out.bx.arg.at' 2 _ rfl
    have x3 := HM.out.bx.arg.at' 3 _ rfl
    have x6 := HM.out.bx.arg.at' 6 _ rfl
    have x7 := HM.out.bx.arg.at' 7 _ rfl
    have r0 := HM.out.bx.res.at' 0 _ rfl
    have r1 := HM.out.bx.res.at' 1 _ rfl
    have r2 := HM.out.bx.res.at' 2 _ rfl
    have r3 := HM.out.bx.res.at' 3 _ rfl
    have r4 := HM.out.bx.res.at' 4 _ rfl
    have r5 := HM.out.bx.res.at' 5 _ rfl
    have r6 := HM.out.bx.res.at' 6 _ rfl
    have g0 := HM.out.bx.res.fz 0
    have g1 := HM.out.bx.res.fz 1
    have g2 := HM.out.bx.res.fz 2
    have g3 := HM.out.bx.res.fz 3
    have g4 := HM.out.bx.res.fz 4
    have g5 := HM.out.bx.res.fz 5
    have g6 := HM.out.bx.res.fz 6
    rcases HOd.out with ⟨ho, rfl⟩ | ⟨ho, rfl⟩ | ⟨ho, rfl⟩ | ⟨ho, rfl⟩ | ⟨ho, rfl⟩ | ⟨ho, rfl⟩ | ⟨ho, rfl⟩ | ⟨ho, rfl⟩
    · rw [ho] at a31
      go_wp2_with fail
      have hM2 : MkAt w (wc.setCell ⟨w.heap.size + 1 + 1, 0, none⟩ (i64 kind)) ⟨kind, who, n, start, take, right, value, odd⟩ { b0 with k := kind } := ⟨HM.out.bx.set 0 _, HM.out.obj.set 0 (i64 kind)⟩
      generalize wc.setCell ⟨w.heap.size + 1 + 1, 0, none⟩ (i64 kind) = w5 at hM2 ⊢
      have hb9 := (below_set (p := ⟨w.heap.size + 1, 6, none⟩) (below_set (p := ⟨w.heap.size + 1, 5, none⟩) (below_set (p := ⟨w.heap.size + 1, 4, none⟩) (below_set (p := ⟨w.heap.size + 1, 3, none⟩) (below_set (p := ⟨w.heap.size + 1, 2, none⟩) (below_set (p := ⟨w.heap.size + 1, 1, none⟩) (below_set (p := ⟨w.heap.size + 1, 0, none⟩) hM2.bx.below (Nat.le_succ _) (i64 kind)) (Nat.le_succ _) (i64 b0.who)) (Nat.le_succ _) (i64 b0.ck)) (Nat.le_succ _) (i64 b0.ce)) (Nat.le_succ _) (u64 b0.v)) (Nat.le_succ _) (i64 b0.st)) (Nat.le_succ _) (i64 b0.n))
      have ho9 := (((((((hM2.bx.res.set 0 (i64 kind)).set 1 (i64 b0.who)).set 2 (i64 b0.ck)).set 3 (i64 b0.ce)).set 4 (u64 b0.v)).set 5 (i64 b0.st)).set 6 (i64 b0.n))
      generalize (((((((w5.setCell ⟨w.heap.size + 1, 0, none⟩ (i64 kind)).setCell ⟨w.heap.size + 1, 1, none⟩ (i64 b0.who)).setCell ⟨w.heap.size + 1, 2, none⟩ (i64 b0.ck)).setCell ⟨w.heap.size + 1, 3, none⟩ (i64 b0.ce)).setCell ⟨w.heap.size + 1, 4, none⟩ (u64 b0.v)).setCell ⟨w.heap.size + 1, 5, none⟩ (i64 b0.st)).setCell ⟨w.heap.size + 1, 6, none⟩ (i64 b0.n)) = w9 at hb9 ho9 ⊢
      have z0 := ho9.at' 0 _ rfl
      have z1 := ho9.at' 1 _ rfl
      have z2 := ho9.at' 2 _ rfl
      have z3 := ho9.at' 3 _ rfl
      have z4 := ho9.at' 4 _ rfl
      have z5 := ho9.at' 5 _ rfl
      have z6 := ho9.at' 6 _ rfl
      exact bodyPost_ret (v := (⟨kind, b0.who, b0.ck, b0.ce, b0.v, b0.st, b0.n⟩ : CM).val) (by simp [results, Try.results10, go_sem, z0, z1, z2, z3, z4, z5, z6]) rfl ⟨rfl, hb9⟩
    · rw [ho] at a31
      go_wp2_with fail
      have hM2 : MkAt w (wc.setCell ⟨w.heap.size + 1 + 1, 1, none⟩ (i64 who)) ⟨kind, who, n, start, take, right, value, odd⟩ { b0 with who := who } := ⟨HM.out.bx.set 1 _, HM.out.obj.set 1 (i64 who)⟩
      generalize wc.setCell ⟨w.heap.size + 1 + 1, 1, none⟩ (i64 who) = w5 at hM2 ⊢
      have hb9 := (below_set (p := ⟨w.heap.size + 1, 6, none⟩) (below_set (p := ⟨w.heap.size + 1, 5, none⟩) (below_set (p := ⟨w.heap.size + 1, 4, none⟩) (below_set (p := ⟨w.heap.size + 1, 3, none⟩) (below_set (p := ⟨w.heap.size + 1, 2, none⟩) (below_set (p := ⟨w.heap.size + 1, 1, none⟩) (below_set (p := ⟨w.heap.size + 1, 0, none⟩) hM2.bx.below (Nat.le_succ _) (i64 b0.k)) (Nat.le_succ _) (i64 who)) (Nat.le_succ _) (i64 b0.ck)) (Nat.le_succ _) (i64 b0.ce)) (Nat.le_succ _) (u64 b0.v)) (Nat.le_succ _) (i64 b0.st)) (Nat.le_succ _) (i64 b0.n))
      have ho9 := (((((((hM2.bx.res.set 0 (i64 b0.k)).set 1 (i64 who)).set 2 (i64 b0.ck)).set 3 (i64 b0.ce)).set 4 (u64 b0.v)).set 5 (i64 b0.st)).set 6 (i64 b0.n))
      generalize (((((((w5.setCell ⟨w.heap.size + 1, 0, none⟩ (i64 b0.k)).setCell ⟨w.heap.size + 1, 1, none⟩ (i64 who)).setCell ⟨w.heap.size + 1, 2, none⟩ (i64 b0.ck)).setCell ⟨w.heap.size + 1, 3, none⟩ (i64 b0.ce)).setCell ⟨w.heap.size + 1, 4, none⟩ (u64 b0.v)).setCell ⟨w.heap.size + 1, 5, none⟩ (i64 b0.st)).setCell ⟨w.heap.size + 1, 6, none⟩ (i64 b0.n)) = w9 at hb9 ho9 ⊢
      have z0 := ho9.at' 0 _ rfl
      have z1 := ho9.at' 1 _ rfl
      have z2 := ho9.at' 2 _ rfl
      have z3 := ho9.at' 3 _ rfl
      have z4 := ho9.at' 4 _ rfl
      have z5 := ho9.at' 5 _ rfl
      have z6 := ho9.at' 6 _ rfl
      exact bodyPost_ret (v := (⟨b0.k, who, b0.ck, b0.ce, b0.v, b0.st, b0.n⟩ : CM).val) (by simp [results, Try.results10, go_sem, z0, z1, z2, z3, z4, z5, z6]) rfl ⟨rfl, hb9⟩
    · rw [ho] at a31
      go_wp2_with fail
      have hM2 : MkAt w (wc.setCell ⟨w.heap.size + 1 + 1, 6, none⟩ (i64 n)) ⟨kind, who, n, start, take, right, value, odd⟩ { b0 with n := n } := ⟨HM.out.bx.set 6 _, HM.out.obj.set 6 (i64 n)⟩
      generalize wc.setCell ⟨w.heap.size + 1 + 1, 6, none⟩ (i64 n) = w5 at hM2 ⊢
      have hb9 := (below_set (p := ⟨w.heap.size + 1, 6, none⟩) (below_set (p := ⟨w.heap.size + 1, 5, none⟩) (below_set (p := ⟨w.heap.size + 1, 4, none⟩) (below_set (p := ⟨w.heap.size + 1, 3, none⟩) (below_set (p := ⟨w.heap.size + 1, 2, none⟩) (below_set (p := ⟨w.heap.size + 1, 1, none⟩) (below_set (p := ⟨w.heap.size + 1, 0, none⟩) hM2.bx.below (Nat.le_succ _) (i64 b0.k)) (Nat.le_succ _) (i64 b0.who)) (Nat.le_succ _) (i64 b0.ck)) (Nat.le_succ _) (i64 b0.ce)) (Nat.le_succ _) (u64 b0.v)) (Nat.le_succ _) (i64 b0.st)) (Nat.le_succ _) (i64 n))
      have ho9 := (((((((hM2.bx.res.set 0 (i64 b0.k)).set 1 (i64 b0.who)).set 2 (i64 b0.ck)).set 3 (i64 b0.ce)).set 4 (u64 b0.v)).set 5 (i64 b0.st)).set 6 (i64 n))
      generalize (((((((w5.setCell ⟨w.heap.size + 1, 0, none⟩ (i64 b0.k)).setCell ⟨w.heap.size + 1, 1, none⟩ (i64 b0.who)).setCell ⟨w.heap.size + 1, 2, none⟩ (i64 b0.ck)).setCell ⟨w.heap.size + 1, 3, none⟩ (i64 b0.ce)).setCell ⟨w.heap.size + 1, 4, none⟩ (u64 b0.v)).setCell ⟨w.heap.size + 1, 5, none⟩ (i64 b0.st)).setCell ⟨w.heap.size + 1, 6, none⟩ (i64 n)) = w9 at hb9 ho9 ⊢
      have z0 := ho9.at' 0 _ rfl
      have z1 := ho9.at' 1 _ rfl
      have z2 := ho9.at' 2 _ rfl
      have z3 := ho9.at' 3 _ rfl
      have z4 := ho9.at' 4 _ rfl
      have z5 := ho9.at' 5 _ rfl
      have z6 := ho9.at' 6 _ rfl
      exact bodyPost_ret (v := (⟨b0.k, b0.who, b0.ck, b0.ce, b0.v, b0.st, n⟩ : CM).val) (by simp [results, Try.results10, go_sem, z0, z1, z2, z3, z4, z5, z6]) rfl ⟨rfl, hb9⟩
    · rw [ho] at a31
      go_wp2_with fail
      have hM2 : MkAt w (wc.setCell ⟨w.heap.size + 1 + 1, 5, none⟩ (i64 start)) ⟨kind, who, n, start, take, right, value, odd⟩ { b0 with st := start } := ⟨HM.out.bx.set 5 _, HM.out.obj.set 5 (i64 start)⟩
      generalize wc.setCell ⟨w.heap.size + 1 + 1, 5, none⟩ (i64 start) = w5 at hM2 ⊢
      have hb9 := (below_set (p := ⟨w.heap.size + 1, 6, none⟩) (below_set (p := ⟨w.heap.size + 1, 5, none⟩) (below_set (p := ⟨w.heap.size + 1, 4, none⟩) (below_set (p := ⟨w.heap.size + 1, 3, none⟩) (below_set (p := ⟨w.heap.size + 1, 2, none⟩) (below_set (p := ⟨w.heap.size + 1, 1, none⟩) (below_set (p := ⟨w.heap.size + 1, 0, none⟩) hM2.bx.below (Nat.le_succ _) (i64 b0.k)) (Nat.le_succ _) (i64 b0.who)) (Nat.le_succ _) (i64 b0.ck)) (Nat.le_succ _) (i64 b0.ce)) (Nat.le_succ _) (u64 b0.v)) (Nat.le_succ _) (i64 start)) (Nat.le_succ _) (i64 b0.n))
      have ho9 := (((((((hM2.bx.res.set 0 (i64 b0.k)).set 1 (i64 b0.who)).set 2 (i64 b0.ck)).set 3 (i64 b0.ce)).set 4 (u64 b0.v)).set 5 (i64 start)).set 6 (i64 b0.n))
      generalize (((((((w5.setCell ⟨w.heap.size + 1, 0, none⟩ (i64 b0.k)).setCell ⟨w.heap.size + 1, 1, none⟩ (i64 b0.who)).setCell ⟨w.heap.size + 1, 2, none⟩ (i64 b0.ck)).setCell ⟨w.heap.size + 1, 3, none⟩ (i64 b0.ce)).setCell ⟨w.heap.size + 1, 4, none⟩ (u64 b0.v)).setCell ⟨w.heap.size + 1, 5, none⟩ (i64 start)).setCell ⟨w.heap.size + 1, 6, none⟩ (i64 b0.n)) = w9 at hb9 ho9 ⊢
      have z0 := ho9.at' 0 _ rfl
      have z1 := ho9.at' 1 _ rfl
      have z2 := ho9.at' 2 _ rfl
      have z3 := ho9.at' 3 _ rfl
      have z4 := ho9.at' 4 _ rfl
      have z5 := ho9.at' 5 _ rfl
      have z6 := ho9.at' 6 _ rfl
      exact bodyPost_ret (v := (⟨b0.k, b0.who, b0.ck, b0.ce, b0.v, start, b0.n⟩ : CM).val) (by simp [results, Try.results10, go_sem, z0, z1, z2, z3, z4, z5, z6]) rfl ⟨rfl, hb9⟩
    · rw [ho] at a31
      go_wp2_with fail
      have hM2 : MkAt w (wc.setCell ⟨w.heap.size + 1 + 1, 4, none⟩ (u64 value)) ⟨kind, who, n, start, take, right, value, odd⟩ { b0 with v := value } := ⟨HM.out.bx.set 4 _, HM.out.obj.set 4 (u64 value)⟩
      generalize wc.setCell ⟨w.heap.size + 1 + 1, 4, none⟩ (u64 value) = w5 at hM2 ⊢
      have hb9 := (below_set (p := ⟨w.heap.size + 1, 6, none⟩) (below_set (p := ⟨w.heap.size + 1, 5, none⟩) (below_set (p := ⟨w.heap.size + 1, 4, none⟩) (below_set (p := ⟨w.heap.size + 1, 3, none⟩) (below_set (p := ⟨w.heap.size + 1, 2, none⟩) (below_set (p := ⟨w.heap.size + 1, 1, none⟩) (below_set (p := ⟨w.heap.size + 1, 0, none⟩) hM2.bx.below (Nat.le_succ _) (i64 b0.k)) (Nat.le_succ _) (i64 b0.who)) (Nat.le_succ _) (i64 b0.ck)) (Nat.le_succ _) (i64 b0.ce)) (Nat.le_succ _) (u64 value)) (Nat.le_succ _) (i64 b0.st)) (Nat.le_succ _) (i64 b0.n))
      have ho9 := (((((((hM2.bx.res.set 0 (i64 b0.k)).set 1 (i64 b0.who)).set 2 (i64 b0.ck)).set 3 (i64 b0.ce)).set 4 (u64 value)).set 5 (i64 b0.st)).set 6 (i64 b0.n))
      generalize (((((((w5.setCell ⟨w.heap.size + 1, 0, none⟩ (i64 b0.k)).setCell ⟨w.heap.size + 1, 1, none⟩ (i64 b0.who)).setCell ⟨w.heap.size + 1, 2, none⟩ (i64 b0.ck)).setCell ⟨w.heap.size + 1, 3, none⟩ (i64 b0.ce)).setCell ⟨w.heap.size + 1, 4, none⟩ (u64 value)).setCell ⟨w.heap.size + 1, 5, none⟩ (i64 b0.st)).setCell ⟨w.heap.size + 1, 6, none⟩ (i64 b0.n)) = w9 at hb9 ho9 ⊢
      have z0 := ho9.at' 0 _ rfl
      have z1 := ho9.at' 1 _ rfl
      have z2 := ho9.at' 2 _ rfl
      have z3 := ho9.at' 3 _ rfl
      have z4 := ho9.at' 4 _ rfl
      have z5 := ho9.at' 5 _ rfl
      have z6 := ho9.at' 6 _ rfl
      exact bodyPost_ret (v := (⟨b0.k, b0.who, b0.ck, b0.ce, value, b0.st, b0.n⟩ : CM).val) (by simp [results, Try.results10, go_sem, z0, z1, z2, z3, z4, z5, z6]) rfl ⟨rfl, hb9⟩
    · rw [ho] at a31
      go_wp2_with fail
      have hM2 : MkAt w (wc.setCell ⟨w.heap.size + 1 + 1, 2, none⟩ (i64 n)) ⟨kind, who, n, start, take, right, value, odd⟩ { b0 with ck := n } := ⟨HM.out.bx.set 2 _, HM.out.obj.set 2 (i64 n)⟩
      generalize wc.setCell ⟨w.heap.size + 1 + 1, 2, none⟩ (i64 n) = w5 at hM2 ⊢
      have hb9 := (below_set (p := ⟨w.heap.size + 1, 6, none⟩) (below_set (p := ⟨w.heap.size + 1, 5, none⟩) (below_set (p := ⟨w.heap.size + 1, 4, none⟩) (below_set (p := ⟨w.heap.size + 1, 3, none⟩) (below_set (p := ⟨w.heap.size + 1, 2, none⟩) (below_set (p := ⟨w.heap.size + 1, 1, none⟩) (below_set (p := ⟨w.heap.size + 1, 0, none⟩) hM2.bx.below (Nat.le_succ _) (i64 b0.k)) (Nat.le_succ _) (i64 b0.who)) (Nat.le_succ _) (i64 n)) (Nat.le_succ _) (i64 b0.ce)) (Nat.le_succ _) (u64 b0.v)) (Nat.le_succ _) (i64 b0.st)) (Nat.le_succ _) (i64 b0.n))
      have ho9 := (((((((hM2.bx.res.set 0 (i64 b0.k)).set 1 (i64 b0.who)).set 2 (i64 n)).set 3 (i64 b0.ce)).set 4 (u64 b0.v)).set 5 (i64 b0.st)).set 6 (i64 b0.n))
      generalize (((((((w5.setCell ⟨w.heap.size + 1, 0, none⟩ (i64 b0.k)).setCell ⟨w.heap.size + 1, 1, none⟩ (i64 b0.who)).setCell ⟨w.heap.size + 1, 2, none⟩ (i64 n)).setCell ⟨w.heap.size + 1, 3, none⟩ (i64 b0.ce)).setCell ⟨w.heap.size + 1, 4, none⟩ (u64 b0.v)).setCell ⟨w.heap.size + 1, 5, none⟩ (i64 b0.st)).setCell ⟨w.heap.size + 1, 6, none⟩ (i64 b0.n)) = w9 at hb9 ho9 ⊢
      have z0 := ho9.at' 0 _ rfl
      have z1 := ho9.at' 1 _ rfl
      have z2 := ho9.at' 2 _ rfl
      have z3 := ho9.at' 3 _ rfl
      have z4 := ho9.at' 4 _ rfl
      have z5 := ho9.at' 5 _ rfl
      have z6 := ho9.at' 6 _ rfl
      exact bodyPost_ret (v := (⟨b0.k, b0.who, n, b0.ce, b0.v, b0.st, b0.n⟩ : CM).val) (by simp [results, Try.results10, go_sem, z0, z1, z2, z3, z4, z5, z6]) rfl ⟨rfl, hb9⟩
    · rw [ho] at a31
      go_wp2_with fail
      have hM2 : MkAt w (wc.setCell ⟨w.heap.size + 1 + 1, 3, none⟩ (i64 n)) ⟨kind, who, n, start, take, right, value, odd⟩ { b0 with ce := n } := ⟨HM.out.bx.set 3 _, HM.out.obj.set 3 (i64 n)⟩
      generalize wc.setCell ⟨w.heap.size + 1 + 1, 3, none⟩ (i64 n) = w5 at hM2 ⊢
      have hb9 := (below_set (p := ⟨w.heap.size + 1, 6, none⟩) (below_set (p := ⟨w.heap.size + 1, 5, none⟩) (below_set (p := ⟨w.heap.size + 1, 4, none⟩) (below_set (p := ⟨w.heap.size + 1, 3, none⟩) (below_set (p := ⟨w.heap.size + 1, 2, none⟩) (below_set (p := ⟨w.heap.size + 1, 1, none⟩) (below_set (p := ⟨w.heap.size + 1, 0, none⟩) hM2.bx.below (Nat.le_succ _) (i64 b0.k)) (Nat.le_succ _) (i64 b0.who)) (Nat.le_succ _) (i64 b0.ck)) (Nat.le_succ _) (i64 n)) (Nat.le_succ _) (u64 b0.v)) (Nat.le_succ _) (i64 b0.st)) (Nat.le_succ _) (i64 b0.n))
      have ho9 := (((((((hM2.bx.res.set 0 (i64 b0.k)).set 1 (i64 b0.who)).set 2 (i64 b0.ck)).set 3 (i64 n)).set 4 (u64 b0.v)).set 5 (i64 b0.st)).set 6 (i64 b0.n))
      generalize (((((((w5.setCell ⟨w.heap.size + 1, 0, none⟩ (i64 b0.k)).setCell ⟨w.heap.size + 1, 1, none⟩ (i64 b0.who)).setCell ⟨w.heap.size + 1, 2, none⟩ (i64 b0.ck)).setCell ⟨w.heap.size + 1, 3, none⟩ (i64 n)).setCell ⟨w.heap.size + 1, 4, none⟩ (u64 b0.v)).setCell ⟨w.heap.size + 1, 5, none⟩ (i64 b0.st)).setCell ⟨w.heap.size + 1, 6, none⟩ (i64 b0.n)) = w9 at hb9 ho9 ⊢
      have z0 := ho9.at' 0 _ rfl
      have z1 := ho9.at' 1 _ rfl
      have z2 := ho9.at' 2 _ rfl
      have z3 := ho9.at' 3 _ rfl
      have z4 := ho9.at' 4 _ rfl
      have z5 := ho9.at' 5 _ rfl
      have z6 := ho9.at' 6 _ rfl
      exact bodyPost_ret (v := (⟨b0.k, b0.who, b0.ck, n, b0.v, b0.st, b0.n⟩ : CM).val) (by simp [results, Try.results10, go_sem, z0, z1, z2, z3, z4, z5, z6]) rfl ⟨rfl, hb9⟩
    · obtain ⟨q5, hq5⟩ : ∃ q5, odd % 32 = q5 := ⟨_, rfl⟩
      rw [hq5] at a31 ho
      have e1 : (q5 == 1) = false := beq_false_of_ne (by omega)
      have e2 : (q5 == 2) = false := beq_false_of_ne (by omega)
      have e3 : (q5 == 3) = false := beq_false_of_ne (by omega)
      have e4 : (q5 == 4) = false := beq_false_of_ne (by omega)
      have e5 : (q5 == 5) = false := beq_false_of_ne (by omega)
      have e6 : (q5 == 6) = false := beq_false_of_ne (by omega)
      have e7 : (q5 == 7) = false := beq_false_of_ne (by omega)
      clear ho hq5
      go_wp2_with fail
      have hM2 := HM.out
      have hb9 := (below_set (p := ⟨w.heap.size + 1, 6, none⟩) (below_set (p := ⟨w.heap.size + 1, 5, none⟩) (below_set (p := ⟨w.heap.size + 1, 4, none⟩) (below_set (p := ⟨w.heap.size + 1, 3, none⟩) (below_set (p := ⟨w.heap.size + 1, 2, none⟩) (below_set (p := ⟨w.heap.size + 1, 1, none⟩) (below_set (p := ⟨w.heap.size + 1, 0, none⟩) hM2.bx.below (Nat.le_succ _) (i64 M.k)) (Nat.le_succ _) (i64 M.who)) (Nat.le_succ _) (i64 M.ck)) (Nat.le_succ _) (i64 M.ce)) (Nat.le_succ _) (u64 M.v)) (Nat.le_succ _) (i64 M.st)) (Nat.le_succ _) (i64 M.n))
      have ho9 := (((((((hM2.bx.res.set 0 (i64 M.k)).set 1 (i64 M.who)).set 2 (i64 M.ck)).set 3 (i64 M.ce)).set 4 (u64 M.v)).set 5 (i64 M.st)).set 6 (i64 M.n))
      generalize (((((((wc.setCell ⟨w.heap.size + 1, 0, none⟩ (i64 M.k)).setCell ⟨w.heap.size + 1, 1, none⟩ (i64 M.who)).setCell ⟨w.heap.size + 1, 2, none⟩ (i64 M.ck)).setCell ⟨w.heap.size + 1, 3, none⟩ (i64 M.ce)).setCell ⟨w.heap.size + 1, 4, none⟩ (u64 M.v)).setCell ⟨w.heap.size + 1, 5, none⟩ (i64 M.st)).setCell ⟨w.heap.size + 1, 6, none⟩ (i64 M.n)) = w9 at hb9 ho9 ⊢
      have z0 := ho9.at' 0 _ rfl
      have z1 := ho9.at' 1 _ rfl
      have z2 := ho9.at' 2 _ rfl
      have z3 := ho9.at' 3 _ rfl
      have z4 := ho9.at' 4 _ rfl
      have z5 := ho9.at' 5 _ rfl
      have z6 := ho9.at' 6 _ rfl
      exact bodyPost_ret (v := M.val) (by simp [results, Try.results10, go_sem, z0, z1, z2, z3, z4, z5, z6]) rfl ⟨rfl, hb9⟩
end Go.Proofs.Ytpfjommkjkbonaa
