/-
  Contracts of package task: which calls are right; a task that puts: one that is begun, what it was asked for, how far it is, a step, its reply; what a call holds that has cells and such a task. No condition but that numbers fit their kinds.
-/
import Derived.Test.YtemaghebpnjmoaaAPut
import Derived.Handy
import Derived.KernelRfl
namespace Go.Proofs.Ytemaghebpnjmoaa
open Go.RowKit
set_option linter.unusedVariables false

abbrev callV (kd e v s : Int) : Value := .agg #[i64 kd, i64 e, u64 v, i64 s]
abbrev replyV (ok : Bool) (v lo hi : Int) : Value := .agg #[.bool ok, u64 v, i64 lo, i64 hi]
/-- A task's own cells: what it was asked for, and what does it. -/
abbrev taskL (kd e v s : Int) (wk : Value) : List Value := [i64 kd, i64 e, u64 v, i64 s, wk]
abbrev wPut (b : Nat) : Value := .iface 39 (pt b)
abbrev wGet (b : Nat) : Value := .iface 41 (pt b)

theorem as_put_put (W : World) (v : Value) : (Instr.typeAssert (.iface 39 v) 77 39 true).run Try.prog W = .ok (.tuple #[v, .bool true]) W := by kernel_rfl
theorem as_put_get (W : World) (v : Value) : (Instr.typeAssert (.iface 39 v) 77 41 true).run Try.prog W = .ok (.tuple #[.pointer none, .bool false]) W := by kernel_rfl
theorem as_get_put (W : World) (v : Value) : (Instr.typeAssert (.iface 41 v) 77 39 true).run Try.prog W = .ok (.tuple #[.pointer none, .bool false]) W := by kernel_rfl
theorem as_get_get (W : World) (v : Value) : (Instr.typeAssert (.iface 41 v) 77 41 true).run Try.prog W = .ok (.tuple #[v, .bool true]) W := by kernel_rfl

theorem ret_b {a b : Bool} (h : a = b) : Ending.returned (.bool a) = .returned (.bool b) := by rw [h]

set_option maxRecDepth 100000 in
set_option maxHeartbeats 2000000 in
theorem callright_any (kd e v s : Int) (w : World) :
    Calls Try.prog 8 #[callV kd e v s] w fun r w' => r = .returned (.bool (decide ((kd = 0 ∨ kd = 1) ∧ (e = 0 ∨ e = 1)))) ∧ Below w.heap.size w w' := by
  go_enter Try.func8, Try.ntmps8
  go_wp2
  all_goals
    go_ret
    refine ⟨?_, below_new (Below.refl _ _) _⟩
    exact ret_b (by grind)

theorem callright_yes (kd e v s : Int) (w : World) (hk : kd = 0 ∨ kd = 1) (he : e = 0 ∨ e = 1) :
    Calls Try.prog 8 #[callV kd e v s] w fun r w' => r = .returned (.bool true) ∧ Below w.heap.size w w' := by
  have h := callright_any kd e v s w
  rw [decide_eq_true ⟨hk, he⟩] at h
  exact h

section
variable {w w' : World} {b : Nat} {kd e v s : Int} {wk : Value}

/-- The cells. -/
structure AtTask (w : World) (b : Nat) (kd e v s : Int) (wk : Value) : Prop where
  c0 : w.cell? ⟨b, 0, none⟩ = some (i64 kd)
  c1 : w.cell? ⟨b, 1, none⟩ = some (i64 e)
  c2 : w.cell? ⟨b, 2, none⟩ = some (u64 v)
  c3 : w.cell? ⟨b, 3, none⟩ = some (i64 s)
  c4 : w.cell? ⟨b, 4, none⟩ = some wk
theorem IsObj.task (h : IsObj w b (taskL kd e v s wk)) : AtTask w b kd e v s wk := ⟨h.at' 0 _ rfl, h.at' 1 _ rfl, h.at' 2 _ rfl, h.at' 3 _ rfl, h.at' 4 _ rfl⟩

set_option maxHeartbeats 1000000 in
theorem tkcall_any (h : IsObj w b (taskL kd e v s wk)) : Calls Try.prog 15 #[pt b] w fun r w' => r = .returned (callV kd e v s) ∧ Below w.heap.size w w' := by
  obtain ⟨c0, c1, c2, c3, c4⟩ := h.task
  have hlt := h.lt
  clear h
  go_enter Try.func15, Try.ntmps15
  go_wp2
  exact bodyPost_ret (v := callV kd e v s) (by simp [results, Try.results15, go_sem]) rfl ⟨rfl, by repeat' first | exact below_new (Below.refl _ _) _ | refine below_set ?_ (by simp) _⟩

set_option maxHeartbeats 1000000 in
theorem tphase_put {bp b1 b2 : Nat} {k : Pu} (h : IsObj w b (taskL kd e v s (wPut bp))) (hk : IsPu w bp b1 b2 k) : Calls Try.prog 38 #[pt b] w fun r w' => r = .returned (i64 k.ph) ∧ w = w' := by
  have c4 := h.task.c4
  have HK := Lib.hid hk
  clear h hk
  go_enter Try.func38, Try.ntmps38
  go_wp2_with fail
  refine (puphase_any _ _ _ _ _ HK.out.obj).mono ?_
  rintro r w' ⟨rfl, rfl⟩
  go_wp2
  go_ret
  exact ⟨rfl, rfl⟩

set_option maxHeartbeats 1000000 in
theorem tover_put {bp b1 b2 : Nat} {k : Pu} (h : IsObj w b (taskL kd e v s (wPut bp))) (hk : IsPu w bp b1 b2 k) : Calls Try.prog 16 #[pt b] w fun r w' => r = .returned (.bool (k.ph != 0)) ∧ w = w' := by
  have HP := Lib.hid (tphase_put h hk)
  clear h hk
  go_enter Try.func16, Try.ntmps16
  go_wp2_with fail
  refine HP.out.mono ?_
  rintro r w' ⟨rfl, rfl⟩
  go_wp2
  go_ret
  exact ⟨rfl, rfl⟩
end

section
variable {W w w' : World} {p c b bp b1 b2 : Nat} {v : Value} {C : List Int} {L : List Ev} {k : Pu} {R : List Thing} {kd e x s : Int}

abbrev tTask (W : World) (b : Nat) (kd e x s : Int) (wk : Value) : Thing := tObj W.heap.size b (taskL kd e x s wk)
theorem PuHold.obj (h : PuHold W w p c v C L bp b1 b2 k (tTask W b kd e x s (wPut bp) :: R)) : IsObj w b (taskL kd e x s (wPut bp)) := (Hold.has h 2 _ rfl).1

set_option maxRecDepth 100000 in
set_option maxHeartbeats 2000000 in
theorem tstep_put {now : Int} {k' : Pu} {C' : List Int} {L' : List Ev} (h : IsObj w b (taskL kd e x s (wPut bp)))
    (hin : Calls Try.prog 19 #[pt bp, pt p, i64 now] w fun r w' => r = .returned (i64 k'.ph) ∧ ∃ v', PuHold W w' p c v' C' L' bp b1 b2 k' (tTask W b kd e x s (wPut bp) :: R)) :
    Calls Try.prog 20 #[pt b, pt p, i64 now] w fun r w' => r = .returned (.bool (k'.ph != 0)) ∧ ∃ v', PuHold W w' p c v' C' L' bp b1 b2 k' (tTask W b kd e x s (wPut bp) :: R) := by
  have c4 := h.task.c4
  have HC := Lib.hid hin
  have a1 := as_put_put w (pt bp)
  clear h hin
  go_enter Try.func20, Try.ntmps20
  go_wp2_with fail
  refine HC.out.mono ?_
  rintro r w1 ⟨rfl, v1, hH⟩
  have HH := Lib.hid hH
  have HO := Lib.hid (tover_put hH.obj hH.pu)
  clear hH c4 a1
  go_wp2_with fail
  refine HO.out.mono ?_
  rintro r w2 ⟨rfl, rfl⟩
  go_wp2
  go_ret
  exact ⟨rfl, v1, HH.out⟩
/-- A step. -/
theorem PuHold.tstep {N : Nat} {m : Int} {nb hz : Nat} {now : Int} (h : PuHold W w p c v C L bp b1 b2 k (tTask W b kd e x s (wPut bp) :: R)) (hk : k.Ok N m nb hz C) (n0 : 0 ≤ now) (hL : L.length < 1000000000) :
    Calls Try.prog 20 #[pt b, pt p, i64 now] w fun r w' => r = .returned (.bool ((k.step m nb hz C now).ph != 0)) ∧ ∃ v', PuHold W w' p c v' (k.cells N nb C now) (L ++ k.ev N nb hz C now) bp b1 b2 (k.step m nb hz C now) (tTask W b kd e x s (wPut bp) :: R) :=
  tstep_put h.obj (h.call hk n0 hL)

/-- What comes of it. -/
def Pu.reply (k : Pu) : Value := if k.ph = 1 then replyV true 0 k.tk.lo k.tk.hi else replyV false 0 0 0

set_option maxRecDepth 100000 in
set_option maxHeartbeats 4000000 in
theorem PuHold.treply (h : PuHold W w p c v C L bp b1 b2 k (tTask W b kd e x s (wPut bp) :: R)) :
    Calls Try.prog 17 #[pt b] w fun r w' => r = .returned k.reply ∧ Below w.heap.size w w' := by
  have HH := Lib.hid (h.later (below_new (Below.refl _ _) (.cells #[.bool false, .int .u64 0, .int .i64 0, .int .i64 0] 47)))
  by_cases hp : k.ph = 1
  · have HR : Hid (k.reply = replyV true 0 k.tk.lo k.tk.hi) := if_pos hp
    have q : (k.ph != 1) = false := by simp [hp]
    have HP := Lib.hid hp
    have HF := Lib.hid (tphase_put HH.out.obj HH.out.pu)
    clear h hp
    go_enter Try.func17, Try.ntmps17
    go_wp2_with fail
    refine HF.out.mono ?_
    rintro r w1 ⟨rfl, rfl⟩
    clear HF
    replace HH := Lib.hid (HH.out.later (below_new (Below.refl _ _) (.cells #[.bool true, .int .u64 0, .int .i64 0, .int .i64 0] 47)))
    have c4 := HH.out.obj.task.c4
    have a1 := fun W => as_put_put W (pt bp)
    have a2 := fun W => as_put_get W (pt bp)
    go_wp2_with fail
    refine (pustamp_yes _ _ _ _ _ HP.out HH.out.pu).mono ?_
    rintro r w1 ⟨rfl, hb1⟩
    have c5 := (HH.out.later hb1).obj.task.c4
    obtain ⟨hc, hf⟩ := bcell hb1
    go_wp2
    rw [HR.out]
    have k0 : ∀ j x, (#[Value.bool false, .int .u64 0, .int .i64 0, .int .i64 0] : Array Value)[j]? = some x → (w1.cell? ⟨w.heap.size, j, none⟩).isSome = true := fun j x hj => by
      rw [hc _ _ (by simp; omega), World.cell?_alloc_old _ _ _ (by simp), World.cell?_alloc_new, hj]
      rfl
    have k1 : (w1.cell? ⟨w.heap.size, 0, none⟩).isSome = true := k0 0 _ rfl
    have k2 : (w1.cell? ⟨w.heap.size, 1, none⟩).isSome = true := k0 1 _ rfl
    have k3 : (w1.cell? ⟨w.heap.size, 2, none⟩).isSome = true := k0 2 _ rfl
    have k4 : (w1.cell? ⟨w.heap.size, 3, none⟩).isSome = true := k0 3 _ rfl
    have hbb : Below w.heap.size w w1 := below_step (below_new (below_new (Below.refl _ _) _) _) hb1
    exact bodyPost_ret (v := replyV true 0 k.tk.lo k.tk.hi) (by simp [results, Try.results17, go_sem, k1, k2, k3, k4]) rfl ⟨rfl, below_set (below_set (below_set (below_set (below_set (below_set hbb (Nat.le_succ _) _) (Nat.le_succ _) _) (Nat.le_refl _) _) (Nat.le_refl _) _) (Nat.le_refl _) _) (Nat.le_refl _) _⟩
  · have HR : Hid (k.reply = replyV false 0 0 0) := if_neg hp
    have q : (k.ph != 1) = true := by simp [hp]
    have HF := Lib.hid (tphase_put HH.out.obj HH.out.pu)
    clear h hp
    go_enter Try.func17, Try.ntmps17
    go_wp2_with fail
    refine HF.out.mono ?_
    rintro r w1 ⟨rfl, rfl⟩
    clear HF
    go_wp2
    rw [HR.out]
    exact bodyPost_ret (v := replyV false 0 0 0) (by simp [results, Try.results17, go_sem]) rfl ⟨rfl, by repeat' first | exact below_new (Below.refl _ _) _ | refine below_set ?_ (by simp) _⟩
end

/-- What a task begins with: its layout, its call, itself, in blocks of their own. -/
structure Begun3 (w W : World) (t s so d kd e x start : Int) : Prop where
  conf : AtC W w.heap.size t s so d
  call : IsObj W (w.heap.size + 1) [i64 kd, i64 e, u64 x, i64 start]
  task : IsObj W (w.heap.size + 1 + 1) (taskL kd e x start .nilIface)
  below : Below w.heap.size w W
  size : W.heap.size = w.heap.size + 1 + 1 + 1
theorem Begun3.made (w : World) (t s so d kd e x start : Int) : Begun3 w (((w.alloc (.cells #[.int .i64 t, .int .i64 s, .int .i64 so, .int .i64 d] 32)).alloc (.cells #[i64 kd, i64 e, u64 x, i64 start] 27)).alloc (.cells #[i64 kd, i64 e, u64 x, i64 start, .nilIface] 79)) t s so d kd e x start := by
  have s1 : (w.alloc (.cells #[.int .i64 t, .int .i64 s, .int .i64 so, .int .i64 d] 32)).heap.size = w.heap.size + 1 := by simp
  have h1 := AtC.made w t s so d
  have b1 := below_new (Below.refl w.heap.size w) (.cells #[.int .i64 t, .int .i64 s, .int .i64 so, .int .i64 d] 32)
  generalize w.alloc (.cells #[.int .i64 t, .int .i64 s, .int .i64 so, .int .i64 d] 32) = wa at s1 h1 b1 ⊢
  have s2 : (wa.alloc (.cells #[i64 kd, i64 e, u64 x, i64 start] 27)).heap.size = wa.heap.size + 1 := by simp
  have h2 : IsObj (wa.alloc (.cells #[i64 kd, i64 e, u64 x, i64 start] 27)) wa.heap.size [i64 kd, i64 e, u64 x, i64 start] := IsObj.made wa [i64 kd, i64 e, u64 x, i64 start] 27
  have b2 := below_new (Below.refl wa.heap.size wa) (.cells #[i64 kd, i64 e, u64 x, i64 start] 27)
  generalize wa.alloc (.cells #[i64 kd, i64 e, u64 x, i64 start] 27) = wb at s2 h2 b2 ⊢
  have s3 : (wb.alloc (.cells #[i64 kd, i64 e, u64 x, i64 start, .nilIface] 79)).heap.size = wb.heap.size + 1 := by simp
  have h3 : IsObj (wb.alloc (.cells #[i64 kd, i64 e, u64 x, i64 start, .nilIface] 79)) wb.heap.size (taskL kd e x start .nilIface) := IsObj.made wb [i64 kd, i64 e, u64 x, i64 start, .nilIface] 79
  have b3 := below_new (Below.refl wb.heap.size wb) (.cells #[i64 kd, i64 e, u64 x, i64 start, .nilIface] 79)
  generalize wb.alloc (.cells #[i64 kd, i64 e, u64 x, i64 start, .nilIface] 79) = wc at s3 h3 b3 ⊢
  rw [s1] at h2 s2
  rw [s2] at h3 s3
  exact ⟨(h1.later b2 (by omega)).later b3 (by omega), h2.later b3, h3, below_step b1 (below_step b2 b3 |>.mono (by omega)), s3⟩
theorem Begun3.later {w W W' : World} {t s so d kd e x start : Int} (h : Begun3 w W t s so d kd e x start) (k : Below W.heap.size W W') : AtC W' w.heap.size t s so d ∧ IsObj W' (w.heap.size + 1) [i64 kd, i64 e, u64 x, i64 start] ∧ IsObj W' (w.heap.size + 1 + 1) (taskL kd e x start .nilIface) :=
  ⟨h.conf.later k (by have := h.size; omega), h.call.later k, h.task.later k⟩

section
variable {w : World} {N : Nat}
/-- Where a task and its put lie. -/
def TpB (b bp b1 b2 : Nat) (i : Nat) : Prop := i = b ∨ PuB bp b1 b2 i

set_option maxRecDepth 100000 in
set_option maxHeartbeats 4000000 in
theorem tknew_put (t s so d who e x start m : Int) (hl : Lay t s N) (w0 : 0 ≤ who) (w1 : who < t) (hm : who * s = m) (m0 : 0 ≤ m) (m1 : m + s ≤ N) (he : e = 0 ∨ e = 1) :
    Calls Try.prog 12 #[cf t s so d, i64 who, callV 0 e x start] w fun r w' => ∃ b bp b1 b2, r = .returned (pt b) ∧ IsObj w' b (taskL 0 e x start (wPut bp)) ∧ IsPu w' bp b1 b2 (pu0 t s so d who e x m) ∧ Below w.heap.size w w' ∧ (∀ i, TpB b bp b1 b2 i → w.heap.size ≤ i) ∧ ¬ PuB bp b1 b2 b := by
  have HN := Lib.hid (fun w => punew_any (N := N) (m := m) w t s so d who e x hl w0 w1 hm m0 m1)
  have HR := Lib.hid (fun w => callright_yes 0 e x start w (.inl rfl) he)
  have HF := Lib.hid (Begun3.made w t s so d 0 e x start)
  clear hm he hl w0 w1 m0 m1
  go_enter Try.func12, Try.ntmps12
  go_wp2_with fail
  generalize ((w.alloc (.cells #[.int .i64 t, .int .i64 s, .int .i64 so, .int .i64 d] 32)).alloc (.cells #[i64 0, i64 e, u64 x, i64 start] 27)).alloc (.cells #[i64 0, i64 e, u64 x, i64 start, .nilIface] 79) = W at HF ⊢
  refine (HR.out W).mono ?_
  rintro r w1 ⟨rfl, hb1⟩
  obtain ⟨⟨c0, c1, c2, c3⟩, hC, hT⟩ := HF.out.later hb1
  have d0 := hC.at' 0 _ rfl
  have d1 := hC.at' 1 _ rfl
  have d2 := hC.at' 2 _ rfl
  have HB := Lib.hid (below_step' HF.out.below hb1 HF.out.below.size)
  have HT := Lib.hid hT
  clear hC hT
  go_wp2_with fail
  refine (HN.out w1).mono ?_
  rintro r w2 ⟨bp, b1, b2, rfl, hP, hb2, hn⟩
  have hO := HT.out.later hb2
  have hf := hO.fz 4
  have e4 := hO.at' 4 _ rfl
  have hs1 := HF.out.size
  have hs2 := hb1.size
  have hP2 : IsPu (w2.setCell ⟨w.heap.size + 1 + 1, 4, none⟩ (wPut bp)) bp b1 b2 (pu0 t s so d who e x m) := hP.keep (T := (· = w.heap.size + 1 + 1)) ((Keep.refl _ _).own 4 _) (fun h => by have := hn bp (.inl rfl); omega) (fun h => by have := hn b1 (.inr (.inl rfl)); omega) (fun h => by have := hn b2 (.inr (.inr rfl)); omega)
  have HX := Lib.hid hP2
  have HY := Lib.hid (hO.set 4 (wPut bp))
  have HZ : Hid (Below w.heap.size w (w2.setCell ⟨w.heap.size + 1 + 1, 4, none⟩ (wPut bp))) := below_set (below_step' HB.out hb2 HB.out.size) (by show w.heap.size ≤ w.heap.size + 1 + 1; omega) _
  have HN2 : Hid ((∀ i, TpB (w.heap.size + 1 + 1) bp b1 b2 i → w.heap.size ≤ i) ∧ ¬ PuB bp b1 b2 (w.heap.size + 1 + 1)) := by
    refine ⟨fun i hi => ?_, fun h => by have := hn _ h; omega⟩
    rcases hi with rfl | hi
    · omega
    · have := hn _ hi
      omega
  clear hP2 hO hP hn
  go_wp2_with fail
  go_ret
  exact ⟨_, bp, b1, b2, rfl, HY.out, HX.out, HZ.out, HN2.out⟩
end

end Go.Proofs.Ytemaghebpnjmoaa
