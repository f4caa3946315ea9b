/-
  Contracts of package task: a task that gets: one that is begun, how far it is, a step, its reply; what a call holds that has cells and such a task. No condition but that numbers fit their kinds.
-/
import Derived.Test.YtemaghebpnjmoaaTaskPut
import Derived.Test.YtemaghebpnjmoaaAGet
namespace Go.Proofs.Ytemaghebpnjmoaa
open Go.RowKit
set_option linter.unusedVariables false

section
variable {base : Nat} {w w' : World} {b bg bs gs : Nat} {bt : Option Nat} {kd e x s : Int} {k : Ge}

set_option maxHeartbeats 1000000 in
theorem tphase_get (h : IsObj w b (taskL kd e x s (wGet bg))) (hk : IsGe base w bg bs gs bt k) : Calls Try.prog 38 #[pt b] w fun r w' => r = .returned (i64 k.ph) ∧ w = w' := by
  have c4 := h.task.c4
  have HK := Lib.hid hk
  clear h hk
  go_enter Try.func38, Try.ntmps38
  go_wp2_with fail
  refine (gephase_any _ _ _ _ _ _ _ HK.out).mono ?_
  rintro r w' ⟨rfl, rfl⟩
  go_wp2
  go_ret
  exact ⟨rfl, rfl⟩

set_option maxHeartbeats 1000000 in
theorem tover_get (h : IsObj w b (taskL kd e x s (wGet bg))) (hk : IsGe base w bg bs gs bt k) : Calls Try.prog 16 #[pt b] w fun r w' => r = .returned (.bool (k.ph != 0)) ∧ w = w' := by
  have HP := Lib.hid (tphase_get h hk)
  clear h hk
  go_enter Try.func16, Try.ntmps16
  go_wp2_with fail
  refine HP.out.mono ?_
  rintro r w' ⟨rfl, rfl⟩
  go_wp2
  go_ret
  exact ⟨rfl, rfl⟩
end

section
variable {W w w' : World} {p c b bg : Nat} {C : List Int} {L : List Ev} {k : Ge} {R : List Thing} {kd e x s : Int}

theorem GeH.obj (h : GeH W w p c C L bg k (tTask W b kd e x s (wGet bg) :: R)) : IsObj w b (taskL kd e x s (wGet bg)) := by
  obtain ⟨v, bs, gs, bt, h⟩ := h
  exact (Hold.has h 2 _ rfl).1
theorem GeH.tover (h : GeH W w p c C L bg k (tTask W b kd e x s (wGet bg) :: R)) : Calls Try.prog 16 #[pt b] w fun r w' => r = .returned (.bool (k.ph != 0)) ∧ w = w' := by
  have ho := h.obj
  obtain ⟨v, bs, gs, bt, h⟩ := h
  exact tover_get ho (h.has 1 _ rfl)

set_option maxRecDepth 100000 in
set_option maxHeartbeats 2000000 in
theorem tstep_get {now : Int} {Z : Int → Prop} {f : Int → Ge} {C' : List Int} {L' : List Ev} (h : IsObj w b (taskL kd e x s (wGet bg)))
    (hin : Calls Try.prog 18 #[pt bg, pt p] w fun r w' => ∃ z, Z z ∧ r = .returned (i64 (f z).ph) ∧ GeH W w' p c C' L' bg (f z) (tTask W b kd e x s (wGet bg) :: R)) :
    Calls Try.prog 20 #[pt b, pt p, i64 now] w fun r w' => ∃ z, Z z ∧ r = .returned (.bool ((f z).ph != 0)) ∧ GeH W w' p c C' L' bg (f z) (tTask W b kd e x s (wGet bg) :: R) := by
  have c4 := h.task.c4
  have HC := Lib.hid hin
  have a1 := as_get_put w (pt bg)
  have a2 := as_get_get w (pt bg)
  clear h hin
  go_enter Try.func20, Try.ntmps20
  go_wp2_with fail
  refine HC.out.mono ?_
  rintro r w1 ⟨z, hz, rfl, hH⟩
  have HH := Lib.hid hH
  have HO := Lib.hid hH.tover
  have HZ := Lib.hid hz
  clear hH c4 a1 a2 hz
  go_wp2_with fail
  refine HO.out.mono ?_
  rintro r w2 ⟨rfl, rfl⟩
  go_wp2
  go_ret
  exact ⟨z, HZ.out, rfl, HH.out⟩
/-- A step. -/
theorem GeH.tstep {N hz : Nat} {now : Int} (h : GeH W w p c C L bg k (tTask W b kd e x s (wGet bg) :: R)) (hk : k.Ok N hz C) (hL : L.length < 1000000000) :
    Calls Try.prog 20 #[pt b, pt p, i64 now] w fun r w' => ∃ z, k.ask C z ∧ r = .returned (.bool ((k.step N hz C z).ph != 0)) ∧ GeH W w' p c (k.cells N hz C) (L ++ k.ev N hz C) bg (k.step N hz C z) (tTask W b kd e x s (wGet bg) :: R) :=
  tstep_get h.obj (h.call hk hL)

/-- What comes of it. -/
def Ge.reply (k : Ge) : Value := if k.ph = 1 then replyV true k.val 0 0 else replyV false 0 0 0

set_option maxRecDepth 100000 in
set_option maxHeartbeats 4000000 in
theorem GeH.treply (h : GeH W w p c C L bg k (tTask W b kd e x s (wGet bg) :: R)) (h1 : k.ph = 1 → k.ta ≠ none) :
    Calls Try.prog 17 #[pt b] w fun r w' => r = .returned k.reply ∧ Below w.heap.size w w' := by
  have hh := h.later (below_new (Below.refl _ _) (.cells #[.bool false, .int .u64 0, .int .i64 0, .int .i64 0] 47))
  have ho := hh.obj
  have HH := Lib.hid hh
  obtain ⟨v, bs, gs, bt, hh⟩ := hh
  have HF := Lib.hid (tphase_get ho (hh.has 1 _ rfl))
  clear hh ho
  by_cases hp : k.ph = 1
  · have HR : Hid (k.reply = replyV true k.val 0 0) := if_pos hp
    have q : (k.ph != 1) = false := by simp [hp]
    have H1 := Lib.hid (h1 hp)
    clear h hp h1
    go_enter Try.func17, Try.ntmps17
    go_wp2_with fail
    refine HF.out.mono ?_
    rintro r w1 ⟨rfl, rfl⟩
    clear HF
    replace HH := Lib.hid (HH.out.later (below_new (Below.refl _ _) (.cells #[.bool true, .int .u64 0, .int .i64 0, .int .i64 0] 47)))
    have c4 := HH.out.obj.task.c4
    have a1 := fun W => as_get_put W (pt bg)
    have a2 := fun W => as_get_get W (pt bg)
    have HV := Lib.hid (HH.out.value k.val rfl (fun _ => H1.out))
    go_wp2_with fail
    refine HV.out.mono ?_
    rintro r w1 ⟨rfl, hb1⟩
    obtain ⟨hc, hf⟩ := bcell hb1
    clear HV c4
    go_wp2
    rw [HR.out]
    have k0 : ∀ j x, (#[Value.bool false, .int .u64 0, .int .i64 0, .int .i64 0] : Array Value)[j]? = some x → (w1.cell? ⟨w.heap.size, j, none⟩).isSome = true := fun j x hj => by
      rw [hc _ _ (by simp; omega), World.cell?_alloc_old _ _ _ (by simp), World.cell?_alloc_new, hj]
      rfl
    have k1 : (w1.cell? ⟨w.heap.size, 0, none⟩).isSome = true := k0 0 _ rfl
    have k2 : (w1.cell? ⟨w.heap.size, 1, none⟩).isSome = true := k0 1 _ rfl
    have k3 : (w1.cell? ⟨w.heap.size, 2, none⟩).isSome = true := k0 2 _ rfl
    have k4 : (w1.cell? ⟨w.heap.size, 3, none⟩).isSome = true := k0 3 _ rfl
    have hbb : Below w.heap.size w w1 := below_step (below_new (below_new (Below.refl _ _) _) _) hb1
    exact bodyPost_ret (v := replyV true k.val 0 0) (by simp [results, Try.results17, go_sem, k1, k2, k3, k4]) rfl ⟨rfl, below_set (below_set (below_set (below_set (below_set hbb (Nat.le_succ _) _) (Nat.le_refl _) _) (Nat.le_refl _) _) (Nat.le_refl _) _) (Nat.le_refl _) _⟩
  · have HR : Hid (k.reply = replyV false 0 0 0) := if_neg hp
    have q : (k.ph != 1) = true := by simp [hp]
    clear h hp h1
    go_enter Try.func17, Try.ntmps17
    go_wp2_with fail
    refine HF.out.mono ?_
    rintro r w1 ⟨rfl, rfl⟩
    clear HF
    go_wp2
    rw [HR.out]
    exact bodyPost_ret (v := replyV false 0 0 0) (by simp [results, Try.results17, go_sem]) rfl ⟨rfl, by repeat' first | exact below_new (Below.refl _ _) _ | refine below_set ?_ (by simp) _⟩
end

section
variable {base : Nat} {w : World} {N : Nat}

set_option maxRecDepth 100000 in
set_option maxHeartbeats 4000000 in
theorem tknew_get (t s so d who e x start : Int) (hl : Lay t s N) (he : e = 0 ∨ e = 1) (hb : base ≤ w.heap.size) :
    Calls Try.prog 12 #[cf t s so d, i64 who, callV 1 e x start] w fun r w' => ∃ b bg bs gs, r = .returned (pt b) ∧ IsObj w' b (taskL 1 e x start (wGet bg)) ∧ IsGe base w' bg bs gs none (ge0 t s so d who e start N) ∧ Below w.heap.size w w' ∧ (∀ i, i = b ∨ GeB bg bs gs none i → w.heap.size ≤ i) ∧ ¬ GeB bg bs gs none b := by
  have HN := Lib.hid (fun w1 hb1 => genew_any base w1 N t s so d who e start hl hb1)
  have HR := Lib.hid (fun w => callright_yes 1 e x start w (.inr rfl) he)
  have HF := Lib.hid (Begun3.made w t s so d 1 e x start)
  have Hb := Lib.hid hb
  clear he hl hb
  go_enter Try.func12, Try.ntmps12
  go_wp2_with fail
  generalize ((w.alloc (.cells #[.int .i64 t, .int .i64 s, .int .i64 so, .int .i64 d] 32)).alloc (.cells #[i64 1, i64 e, u64 x, i64 start] 27)).alloc (.cells #[i64 1, i64 e, u64 x, i64 start, .nilIface] 79) = W at HF ⊢
  refine (HR.out W).mono ?_
  rintro r w1 ⟨rfl, hb1⟩
  obtain ⟨⟨c0, c1, c2, c3⟩, hC, hT⟩ := HF.out.later hb1
  have d0 := hC.at' 0 _ rfl
  have d1 := hC.at' 1 _ rfl
  have d2 := hC.at' 3 _ rfl
  have HB := Lib.hid (below_step' HF.out.below hb1 HF.out.below.size)
  have HT := Lib.hid hT
  clear hC hT
  go_wp2_with fail
  refine (HN.out w1 (by have := HB.out.size; have := Hb.out; omega)).mono ?_
  rintro r w2 ⟨bg, bs, gs, rfl, hP, hb2, hn⟩
  have hO := HT.out.later hb2
  have hf := hO.fz 4
  have e4 := hO.at' 4 _ rfl
  have hs1 := HF.out.size
  have hs2 := hb1.size
  have hP2 : IsGe base (w2.setCell ⟨w.heap.size + 1 + 1, 4, none⟩ (wGet bg)) bg bs gs none (ge0 t s so d who e start N) := hP.keep (T := (· = w.heap.size + 1 + 1)) ((Keep.refl _ _).own 4 _) (fun i hi h => by have := hn i hi; omega)
  have HX := Lib.hid hP2
  have HY := Lib.hid (hO.set 4 (wGet bg))
  have HZ : Hid (Below w.heap.size w (w2.setCell ⟨w.heap.size + 1 + 1, 4, none⟩ (wGet bg))) := below_set (below_step' HB.out hb2 HB.out.size) (by show w.heap.size ≤ w.heap.size + 1 + 1; omega) _
  have HN2 : Hid ((∀ i, i = w.heap.size + 1 + 1 ∨ GeB bg bs gs none i → w.heap.size ≤ i) ∧ ¬ GeB bg bs gs none (w.heap.size + 1 + 1)) := by
    refine ⟨fun i hi => ?_, fun h => by have := hn _ h; omega⟩
    rcases hi with rfl | hi
    · omega
    · have := hn _ hi
      omega
  clear hP2 hO hP hn
  go_wp2_with fail
  go_ret
  exact ⟨_, bg, bs, gs, rfl, HY.out, HX.out, HZ.out, HN2.out⟩
end

end Go.Proofs.Ytemaghebpnjmoaa
