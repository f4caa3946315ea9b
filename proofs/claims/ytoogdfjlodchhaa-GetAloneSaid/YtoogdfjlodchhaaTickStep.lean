/-
  Contracts of Step, Phase, Stamp, New and Most of package tick. No condition but that numbers fit their kinds.
-/
import Derived.Test.YtoogdfjlodchhaaTickCalls3
namespace Go.Proofs.Ytoogdfjlodchhaa
open Go.RowKit
set_option linter.unusedVariables false

theorem fin_steps (k : Tk) (x y : Int) : (fin k x y).steps = k.steps := by unfold fin; split <;> rfl

section
variable (base : Nat) (w : World) (b p c : Nat) (v : Value) (C : List Int) (L : List Ev) (k : Tk) (nb : Nat) (n : Int)

set_option maxHeartbeats 2000000 in
theorem step_s0 (now : Int) (k1 : Tk) (C1 : List Int) (L1 : List Ev) (hk : k1.steps = k.steps) (hs0 : 0 ≤ k.steps) (hs1 : k.steps ≤ 1000000) (hp : k.ph = 0) (hso : k.so = 0) (hT : IsTk w b k)
    (hin : Calls Try.prog 78 #[pt b, pt p] w (TickPost base w b p c v k1 C1 L1 (.returned (.tuple #[])))) :
    Calls Try.prog 27 #[pt b, pt p, i64 now] w (TickPost base w b p c v { k1 with steps := k.steps + 1 } C1 L1 (.returned (i64 k1.ph))) := by
  have qp : (k.ph != 0) = false := by simp [hp]
  have q0 : (k.so == 0) = true := by simp [hso]
  have q1 : (k.so == 1) = false := by simp [hso]
  have q2 : (k.so == 2) = false := by simp [hso]
  have q3 : (k.so == 3) = false := by simp [hso]
  have q4 : (k.so == 4) = false := by simp [hso]
  have HIN := Lib.hid hin
  have Hk := Lib.hid hk
  clear hin hk hso hp
  obtain ⟨s0, s1, s2, s3, s4, s5, s6, s7, s8, s9, sf⟩ := id hT
  clear sf hT
  go_enter Try.func27, Try.ntmps27
  go_wp2_with fail
  refine HIN.out.mono ?_
  rintro r w1 ⟨rfl, v1, hS⟩
  have HS := Lib.hid hS
  obtain ⟨t0, t1, t2, t3, t4, t5, t6, t7, t8, t9, tf⟩ := id hS.tk
  rw [Hk.out] at t5
  have f5 := tf 5
  clear tf hS s0 s1 s2 s3 s4 s5 s6 s7 s8 s9
  go_wp2
  go_ret
  exact ⟨rfl, _, HS.out.own (setTk HS.out.tk (k' := { k1 with steps := k.steps + 1 }) 5 (.int .i64 (k.steps + 1)) rfl) ((Keep.refl _ _).own 5 _)⟩

set_option maxHeartbeats 2000000 in
theorem step_s1 (now : Int) (k1 : Tk) (C1 : List Int) (L1 : List Ev) (hk : k1.steps = k.steps) (hs0 : 0 ≤ k.steps) (hs1 : k.steps ≤ 1000000) (hp : k.ph = 0) (hso : k.so = 1) (hT : IsTk w b k)
    (hin : Calls Try.prog 79 #[pt b, pt p] w (TickPost base w b p c v k1 C1 L1 (.returned (.tuple #[])))) :
    Calls Try.prog 27 #[pt b, pt p, i64 now] w (TickPost base w b p c v { k1 with steps := k.steps + 1 } C1 L1 (.returned (i64 k1.ph))) := by
  have qp : (k.ph != 0) = false := by simp [hp]
  have q0 : (k.so == 0) = false := by simp [hso]
  have q1 : (k.so == 1) = true := by simp [hso]
  have q2 : (k.so == 2) = false := by simp [hso]
  have q3 : (k.so == 3) = false := by simp [hso]
  have q4 : (k.so == 4) = false := by simp [hso]
  have HIN := Lib.hid hin
  have Hk := Lib.hid hk
  clear hin hk hso hp
  obtain ⟨s0, s1, s2, s3, s4, s5, s6, s7, s8, s9, sf⟩ := id hT
  clear sf hT
  go_enter Try.func27, Try.ntmps27
  go_wp2_with fail
  refine HIN.out.mono ?_
  rintro r w1 ⟨rfl, v1, hS⟩
  have HS := Lib.hid hS
  obtain ⟨t0, t1, t2, t3, t4, t5, t6, t7, t8, t9, tf⟩ := id hS.tk
  rw [Hk.out] at t5
  have f5 := tf 5
  clear tf hS s0 s1 s2 s3 s4 s5 s6 s7 s8 s9
  go_wp2
  go_ret
  exact ⟨rfl, _, HS.out.own (setTk HS.out.tk (k' := { k1 with steps := k.steps + 1 }) 5 (.int .i64 (k.steps + 1)) rfl) ((Keep.refl _ _).own 5 _)⟩

set_option maxHeartbeats 2000000 in
theorem step_s2 (now : Int) (k1 : Tk) (C1 : List Int) (L1 : List Ev) (hk : k1.steps = k.steps) (hs0 : 0 ≤ k.steps) (hs1 : k.steps ≤ 1000000) (hp : k.ph = 0) (hso : k.so = 2) (hT : IsTk w b k)
    (hin : Calls Try.prog 80 #[pt b, pt p] w (TickPost base w b p c v k1 C1 L1 (.returned (.tuple #[])))) :
    Calls Try.prog 27 #[pt b, pt p, i64 now] w (TickPost base w b p c v { k1 with steps := k.steps + 1 } C1 L1 (.returned (i64 k1.ph))) := by
  have qp : (k.ph != 0) = false := by simp [hp]
  have q0 : (k.so == 0) = false := by simp [hso]
  have q1 : (k.so == 1) = false := by simp [hso]
  have q2 : (k.so == 2) = true := by simp [hso]
  have q3 : (k.so == 3) = false := by simp [hso]
  have q4 : (k.so == 4) = false := by simp [hso]
  have HIN := Lib.hid hin
  have Hk := Lib.hid hk
  clear hin hk hso hp
  obtain ⟨s0, s1, s2, s3, s4, s5, s6, s7, s8, s9, sf⟩ := id hT
  clear sf hT
  go_enter Try.func27, Try.ntmps27
  go_wp2_with fail
  refine HIN.out.mono ?_
  rintro r w1 ⟨rfl, v1, hS⟩
  have HS := Lib.hid hS
  obtain ⟨t0, t1, t2, t3, t4, t5, t6, t7, t8, t9, tf⟩ := id hS.tk
  rw [Hk.out] at t5
  have f5 := tf 5
  clear tf hS s0 s1 s2 s3 s4 s5 s6 s7 s8 s9
  go_wp2
  go_ret
  exact ⟨rfl, _, HS.out.own (setTk HS.out.tk (k' := { k1 with steps := k.steps + 1 }) 5 (.int .i64 (k.steps + 1)) rfl) ((Keep.refl _ _).own 5 _)⟩

set_option maxHeartbeats 2000000 in
theorem step_rest (now : Int) (hp : k.ph ≠ 0) (hT : IsTk w b k) (hM : IsMem base w p c v C L) (ha : ¬ Foot p c v b) (hb : base ≤ w.heap.size) :
    Calls Try.prog 27 #[pt b, pt p, i64 now] w (TickPost base w b p c v k C L (.returned (i64 k.ph))) := by
  have qp : (k.ph != 0) = true := by simp [hp]
  have HS := Lib.hid (Stepped.refl hT hM ha hb)
  clear hp hM ha
  obtain ⟨s0, s1, s2, s3, s4, s5, s6, s7, s8, s9, sf⟩ := id hT
  clear sf hT
  go_enter Try.func27, Try.ntmps27
  go_wp2
  go_ret
  exact ⟨rfl, _, HS.out⟩

set_option maxHeartbeats 2000000 in
theorem step_time (now : Int) (k1 : Tk) (hk : k1.steps = k.steps) (hs0 : 0 ≤ k.steps) (hs1 : k.steps ≤ 1000000) (hp : k.ph = 0) (hso : k.so = 3 ∨ k.so = 4) (hT : IsTk w b k) (hM : IsMem base w p c v C L) (ha : ¬ Foot p c v b) (hb : base ≤ w.heap.size)
    (hin : Calls Try.prog 81 #[pt b, i64 (low now)] w fun r w' => r = .returned (.tuple #[]) ∧ IsTk w' b k1 ∧ Keep (· = b) w w') :
    Calls Try.prog 27 #[pt b, pt p, i64 now] w (TickPost base w b p c v { k1 with steps := k.steps + 1 } C L (.returned (i64 k1.ph))) := by
  have qp : (k.ph != 0) = false := by simp [hp]
  have HS := Lib.hid (Stepped.refl hT hM ha hb)
  have HIN := Lib.hid hin
  have Hk := Lib.hid hk
  have q0 : (k.so == 0) = false := by simp; omega
  have q1 : (k.so == 1) = false := by simp; omega
  have q2 : (k.so == 2) = false := by simp; omega
  have h3 : ((k.so == 4) = false ∧ (k.so == 3) = true) ∨ ((k.so == 4) = true ∧ (k.so == 3) = false) := by
    rcases hso with h | h
    · exact .inl ⟨by simp [h], by simp [h]⟩
    · exact .inr ⟨by simp [h], by simp [h]⟩
  clear hin hk hso hp hM ha
  obtain ⟨s0, s1, s2, s3, s4, s5, s6, s7, s8, s9, sf⟩ := id hT
  clear sf hT
  have hlow : (now ≤ 16777215 ∧ low now = now) ∨ (16777215 < now ∧ low now = 16777215) := by unfold low; omega
  rcases h3 with ⟨q4, q3⟩ | ⟨q4, q3⟩
  all_goals
    rcases hlow with ⟨hn, hl⟩ | ⟨hn, hl⟩
    all_goals
      rw [hl] at HIN
      clear hl
      go_enter Try.func27, Try.ntmps27
      go_wp2_with fail
      refine HIN.out.mono ?_
      rintro r w1 ⟨rfl, hT1, hK1⟩
      have HS1 := Lib.hid (HS.out.own hT1 hK1)
      obtain ⟨t0, t1, t2, t3, t4, t5, t6, t7, t8, t9, tf⟩ := id hT1
      rw [Hk.out] at t5
      have f5 := tf 5
      clear tf hT1 hK1 s0 s1 s2 s3 s4 s5 s6 s7 s8 s9
      go_wp2
      go_ret
      exact ⟨rfl, _, HS1.out.own (setTk HS1.out.tk (k' := { k1 with steps := k.steps + 1 }) 5 (.int .i64 (k.steps + 1)) rfl) ((Keep.refl _ _).own 5 _)⟩

set_option maxHeartbeats 1000000 in
theorem phase_any (hT : IsTk w b k) : Calls Try.prog 26 #[pt b] w fun r w' => r = .returned (i64 k.ph) ∧ w = w' := by
  obtain ⟨s0, s1, s2, s3, s4, s5, s6, s7, s8, s9, sf⟩ := hT
  clear sf
  go_enter Try.func26, Try.ntmps26
  go_wp2
  go_ret
  exact ⟨rfl, rfl⟩

set_option maxHeartbeats 1000000 in
theorem stamp_any (hT : IsTk w b k) : Calls Try.prog 31 #[pt b] w fun r w' => r = .returned (st k.lo k.hi) ∧ Below w.heap.size w w' := by
  have hlt := hT.lt
  obtain ⟨s0, s1, s2, s3, s4, s5, s6, s7, s8, s9, sf⟩ := hT
  clear sf
  go_enter Try.func31, Try.ntmps31
  go_wp2
  exact bodyPost_ret (v := st k.lo k.hi) (by simp [results, Try.results31, go_sem]) rfl ⟨rfl, below_new (Below.refl _ _) _⟩

/-- A stamp that is begun. -/
def tk0 (t s so d who : Int) : Tk := ⟨t, s, so, d, who, 0, 0, 0, 0, 0⟩

set_option maxHeartbeats 1000000 in
theorem tnew_any (t s so d who : Int) : Calls Try.prog 20 #[cf t s so d, i64 who] w fun r w' => ∃ b, r = .returned (pt b) ∧ IsTk w' b (tk0 t s so d who) ∧ Below w.heap.size w w' ∧ w.heap.size ≤ b := by
  go_enter Try.func20, Try.ntmps20
  go_wp2
  go_ret
  refine ⟨w.heap.size + 1, rfl, ?_, below_new (below_new (Below.refl _ _) _) _, by omega⟩
  have h := fun i => World.cell?_alloc_new (w.alloc (.cells #[.int .i64 t, .int .i64 s, .int .i64 so, .int .i64 d] 29)) #[.int .i64 t, .int .i64 s, .int .i64 so, .int .i64 d, i64 who, .int .i64 0, .int .i64 0, .int .i64 0, .int .i64 0, .int .i64 0] 114 i
  rw [show (w.alloc (.cells #[.int .i64 t, .int .i64 s, .int .i64 so, .int .i64 d] 29)).heap.size = w.heap.size + 1 by simp] at h
  exact ⟨h 0, h 1, h 2, h 3, h 4, h 5, h 6, h 7, h 8, h 9, fun o => World.frozen?_alloc_at _ _ _ _ (by simp)⟩

/-- How many steps at most. -/
def most (t so d : Int) : Int := if so = 0 then 1 else if so = 1 then t + 1 else if so = 2 then 4 else if so = 3 then 1 else d + 2

set_option maxHeartbeats 1000000 in
theorem most_any (t s so d : Int) (t1 : 1 ≤ t) (t2 : t ≤ 64) (d0 : 0 ≤ d) (d1 : d ≤ 100) (o0 : 0 ≤ so) (o1 : so ≤ 4) : Calls Try.prog 73 #[cf t s so d] w fun r w' => r = .returned (i64 (most t so d)) ∧ Below w.heap.size w w' := by
  rcases (by omega : so = 0 ∨ so = 1 ∨ so = 2 ∨ so = 3 ∨ so = 4) with rfl | rfl | rfl | rfl | rfl
  all_goals
    go_enter Try.func73, Try.ntmps73
    go_wp2
    go_ret
    exact ⟨rfl, below_new (Below.refl _ _) _⟩

theorem getD_at {C : List Int} {i : Nat} (h : i < C.length) : C[i]? = some (C.getD i 0) := by
  rw [List.getD_eq_getElem?_getD, List.getElem?_eq_getElem h]
  rfl

theorem fin_with (k : Tk) (m x y : Int) : { fin k x y with steps := m } = fin { k with steps := m } x y := by unfold fin; split <;> rfl
theorem fin_ph (k : Tk) (m x y : Int) : (fin k x y).ph = (fin { k with steps := m } x y).ph := by unfold fin; split <;> rfl

theorem step_fit {F : FuncId} {args : Array Value} {k1 k2 : Tk} {C1 C2 : List Int} {L1 L2 : List Ev} {q : Int} (h : Calls Try.prog F args w (TickPost base w b p c v k1 C1 L1 (.returned (i64 q)))) (hk : k1 = k2) (hq : q = k2.ph) (hC : C1 = C2) (hL : L1 = L2) :
    Calls Try.prog F args w (TickPost base w b p c v k2 C2 L2 (.returned (i64 k2.ph))) := by
  subst hk hq hC hL
  exact h

/-- A step does what 'stp' says. -/
theorem step_any (now : Int) (hk : k.Ok nb n C) (n0 : 0 ≤ now) (hT : IsTk w b k) (hM : IsMem base w p c v C L) (ha : ¬ Foot p c v b) (hb : base ≤ w.heap.size) (hL : L.length < 1000000000) :
    Calls Try.prog 27 #[pt b, pt p, i64 now] w (TickPost base w b p c v (stp nb k C now).1 (stp nb k C now).2.1 (L ++ (stp nb k C now).2.2.toList) (.returned (i64 (stp nb k C now).1.ph))) := by
  obtain ⟨hl, hnt, hlen, w0, w1, s0, s1, e0, e1, o0, o1, d0, d1, p0, p1, h2⟩ := hk
  have ht1 := hl.t1
  have hx0 : C[nb]? = some (C.getD nb 0) := getD_at (by omega)
  unfold stp
  by_cases hp : k.ph = 0
  · rw [if_pos hp]
    rcases (by omega : k.so = 0 ∨ k.so = 1 ∨ k.so = 2 ∨ (k.so = 3 ∨ k.so = 4)) with h | h | h | h
    · rw [if_pos h]
      exact step_fit base w b p c v (step_s0 base w b p c v k now _ _ _ (fin_steps _ _ _) s0 s1 hp h hT (count_tick base w b p c v C L k nb n _ hT hM ha hl hnt hx0 hb hL)) (fin_with _ _ _ _) (fin_ph _ _ _ _) rfl rfl
    · rw [if_neg (by omega), if_pos h]
      by_cases hlt : k.steps < k.t
      · rw [if_pos hlt]
        have hj : k.steps = (k.steps.toNat : Int) := by omega
        exact step_fit base w b p c v (step_s1 base w b p c v k now _ _ _ (by exact rfl) s0 s1 hp h hT (stutter_load base w b p c v C L k nb n _ _ hj hlt hT hM ha hl hnt (getD_at (by omega)) hb hL)) rfl rfl rfl rfl
      · rw [if_neg hlt]
        by_cases hf : k.seen + 1 < 16777215
        · rw [if_pos hf]
          have hj : k.who = (k.who.toNat : Int) := by omega
          exact step_fit base w b p c v (step_s1 base w b p c v k now _ _ _ (by exact rfl) s0 s1 hp h hT (stutter_done base w b p c v C L k nb n _ _ hj w1 (by omega) e0 hf hT hM ha hl hnt (getD_at (by omega)) hb hL)) rfl rfl rfl rfl
        · rw [if_neg hf]
          exact step_fit base w b p c v (step_s1 base w b p c v k now _ _ _ (by exact rfl) s0 s1 hp h hT (stutter_full base w b p c v C L k (by omega) e0 e1 (by omega) hT hM ha hb)) rfl rfl rfl (List.append_nil _).symm
    · rw [if_neg (by omega), if_neg (by omega), if_pos h]
      by_cases h0 : k.steps = 0
      · rw [if_pos h0]
        exact step_fit base w b p c v (step_s2 base w b p c v k now _ _ _ (by exact rfl) s0 s1 hp h hT (swap_0 base w b p c v C L k nb n _ h0 hT hM ha hl hnt hx0 hb hL hp)) rfl rfl rfl rfl
      · rw [if_neg h0]
        by_cases h1 : k.steps = 1
        · rw [if_pos h1]
          refine step_fit base w b p c v (step_s2 base w b p c v k now _ _ _ ?_ s0 s1 hp h hT (swap_1 base w b p c v C L k nb n _ h1 hT hM ha hl hnt hx0 hb hL)) ?_ ?_ rfl rfl
          · split
            · rfl
            · exact fin_steps _ _ _
          · show _ = if low (C.getD nb 0) = k.seen then _ else _
            split
            · rfl
            · exact fin_with _ _ _ _
          · show _ = Tk.ph (if low (C.getD nb 0) = k.seen then _ else _)
            split
            · rfl
            · exact fin_ph _ _ _ _
        · rw [if_neg h1]
          by_cases h3 : k.steps = 2
          · rw [if_pos h3]
            have hs := h2 h (by omega) hp
            by_cases hx : C.getD nb 0 = k.seen
            · rw [if_pos hx]
              exact step_fit base w b p c v (step_s2 base w b p c v k now _ _ _ (fin_steps _ _ _) s0 s1 hp h hT (swap_2y base w b p c v C L k nb n _ h3 hx hs hT hM ha hl hnt hx0 hb hL)) (fin_with _ _ _ _) (fin_ph _ _ _ _) rfl rfl
            · rw [if_neg hx]
              exact step_fit base w b p c v (step_s2 base w b p c v k now _ _ _ (by exact rfl) s0 s1 hp h hT (swap_2n base w b p c v C L k nb n _ h3 hx e0 hs hT hM ha hl hnt hx0 hb hL)) rfl rfl rfl rfl
          · rw [if_neg h3]
            exact step_fit base w b p c v (step_s2 base w b p c v k now _ _ _ (fin_steps _ _ _) s0 s1 hp h hT (swap_3 base w b p c v C L k nb n _ (by omega) hT hM ha hl hnt hx0 hb hL)) (fin_with _ _ _ _) (fin_ph _ _ _ _) rfl rfl
    · rw [if_neg (by omega), if_neg (by omega), if_neg (by omega)]
      by_cases hf : k.so = 3 ∨ k.d < k.steps
      · rw [if_pos hf]
        exact step_fit base w b p c v (step_time base w b p c v C L k now _ (by exact fin_steps _ _ _) s0 s1 hp h hT hM ha hb (time_fin w b k (low now) (by omega) hT)) (fin_with _ _ _ _) (fin_ph _ _ _ _) rfl (List.append_nil _).symm
      · rw [if_neg hf]
        exact step_fit base w b p c v (step_time base w b p c v C L k now _ (by exact rfl) s0 s1 hp h hT hM ha hb (time_go w b k (low now) (by omega) (by omega) hT)) rfl rfl rfl (List.append_nil _).symm
  · rw [if_neg hp]
    exact step_fit base w b p c v (step_rest base w b p c v C L k now hp hT hM ha hb) rfl rfl rfl (List.append_nil _).symm
end

end Go.Proofs.Ytoogdfjlodchhaa
