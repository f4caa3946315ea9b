/-
  The example at the head of every law of play. No condition.
-/
import Derived.Test.YtpfjommkjkbonaaGreatPlayFin
import Derived.Test.YtpfjommkjkbonaaGreatCodeYes
namespace Go.Proofs.YtpfjommkjkbonaaGreat
open Go.RowKit
set_option linter.unusedVariables false

def B19 : YB := ⟨0, 0, 0, 0, (2 : Nat), 1, 0, 0, 2⟩
/-- Looks, thread by thread in turn, each with the end z. -/
def lookF (B : YB) (N : Nat) (z : Nat → Int) (Y0 : Yd) : Nat → Yd × Nat
  | 0 => (Y0, 0)
  | j + 1 => match (lookF B N z Y0 j).1.ts[j % B.T]? with
    | some (some (T, i)) => ((lookF B N z Y0 j).1.step (plOf B N (j % B.T)) (j % B.T) T i (z j), (lookF B N z Y0 j).2 + 1)
    | _ => lookF B N z Y0 j
theorem Tick.look {B : YB} {N : Nat} {Y0 Y : Yd} {j s : Nat} {z : Nat → Int} (h : Tick B N Y0 j Y s)
    (hz : ∀ (j : Nat) (T : Wk) (i : Nat) (z' : Int), (lookF B N z Y0 j).1.ts[j % B.T]? = some (some (T, i)) → T.ask (lookF B N z Y0 j).1.C z' → T.step (plOf B N (j % B.T)) (lookF B N z Y0 j).1.C (lookF B N z Y0 j).1.now z' = T.step (plOf B N (j % B.T)) (lookF B N z Y0 j).1.C (lookF B N z Y0 j).1.now (z j)) :
    lookF B N z Y0 j = (Y, s) := by
  induction h with
  | zero => rfl
  | @skip j Y s h hn ih =>
    show (match (lookF B N z Y0 j).1.ts[j % B.T]? with
      | some (some (T, i)) => ((lookF B N z Y0 j).1.step (plOf B N (j % B.T)) (j % B.T) T i (z j), (lookF B N z Y0 j).2 + 1)
      | _ => lookF B N z Y0 j) = _
    rw [ih]
    simp only
    rw [hn]
  | @step j Y s h T i z' hk ha ih =>
    have e := hz j T i z' (by rw [ih]; exact hk) (by rw [ih]; exact ha)
    show (match (lookF B N z Y0 j).1.ts[j % B.T]? with
      | some (some (T, i)) => ((lookF B N z Y0 j).1.step (plOf B N (j % B.T)) (j % B.T) T i (z j), (lookF B N z Y0 j).2 + 1)
      | _ => lookF B N z Y0 j) = _
    rw [ih] at e ⊢
    simp only at e ⊢
    rw [hk]
    simp only
    unfold Yd.step
    rw [e]
/-- Behind the last call's end nothing comes. -/
theorem look_stay {B : YB} {N : Nat} {Y0 : Yd} {z : Nat → Int} {q : Nat} (h : ∀ a, a ∈ (lookF B N z Y0 q).1.ts → a = none) : ∀ k, lookF B N z Y0 (q + k) = lookF B N z Y0 q
  | 0 => rfl
  | k + 1 => by
    have ih := look_stay h k
    show (match (lookF B N z Y0 (q + k)).1.ts[(q + k) % B.T]? with
      | some (some (T, i)) => ((lookF B N z Y0 (q + k)).1.step (plOf B N ((q + k) % B.T)) ((q + k) % B.T) T i (z (q + k)), (lookF B N z Y0 (q + k)).2 + 1)
      | _ => lookF B N z Y0 (q + k)) = _
    rw [ih]
    cases hq : (lookF B N z Y0 q).1.ts[(q + k) % B.T]? with
    | none => rfl
    | some a =>
      have := h a (List.mem_of_getElem? hq)
      subst this
      rfl
def Y19 : Yd := (yd0 2 2).call 0 0 0 7 0 (wkB B19 2 0 false 0 7 0)
theorem l19_8 : (lookF B19 2 (fun _ => 0) Y19 8).1.ts = [none, none] ∧ (lookF B19 2 (fun _ => 0) Y19 8).2 = 4 := ⟨rfl, rfl⟩
theorem l19_ts : ∀ j, j < 8 → (∃ k i, (lookF B19 2 (fun _ => 0) Y19 j).1.ts = [some (.pu k, i), none]) ∨ j = 7 ∧ (lookF B19 2 (fun _ => 0) Y19 j).1.ts = [none, none]
  | 0, _ => .inl ⟨_, _, rfl⟩
  | 1, _ => .inl ⟨_, _, rfl⟩
  | 2, _ => .inl ⟨_, _, rfl⟩
  | 3, _ => .inl ⟨_, _, rfl⟩
  | 4, _ => .inl ⟨_, _, rfl⟩
  | 5, _ => .inl ⟨_, _, rfl⟩
  | 6, _ => .inl ⟨_, _, rfl⟩
  | 7, _ => .inr ⟨rfl, rfl⟩
  | j + 8, h => by omega

theorem FinM.mono {pl : Nat → Pl} {t put b μ μ' : Nat} {Y : Yd} (h : FinM pl t put b Y μ) (hm : μ ≤ μ') : FinM pl t put b Y μ' := by
  obtain ⟨s, tu, h1, h2⟩ := h
  exact ⟨s, tu, h1, Nat.le_trans h2 hm⟩
theorem updN_zero (w : Nat) : updN (fun _ => 0) w 0 = fun _ => 0 := funext (fun k => by unfold updN; split <;> rfl)
theorem YTr.books {B : YB} {N m Q : Nat} {Y : Nat → Yd} (h : YTr B N Y m) (hQ : B.s * (B.t + 1) + most B.t B.so B.d + 2 = (Q : Int)) : ∀ i, i ≤ m → Books (plOf B N) Q (Y i) (fun _ => 0) (fun _ => 0)
  | 0, _ => Books.none (fun k a hk => by
    rw [h.zero] at hk
    have hk' : (List.replicate B.T (none : Option (Wk × Nat)))[k]? = some (some a) := hk
    rw [List.getElem?_replicate] at hk'
    split at hk' <;> cases hk')
  | i + 1, hi => by
    have ih := YTr.books h hQ i (by omega)
    have hok := (h.all i (by omega)).ok
    have hw := h.how i (by omega)
    generalize Y (i + 1) = Z at hw
    cases hw with
    | rest => exact ih
    | call w take kd e x s hq he hk =>
      have h1 := ih.call (kd := kd) (e := e) (x := x) (s := s) hq (OLeft.begun (who := (w : Int)) (e := e) (x := x) (start := s) (m := (w : Int) * B.s) (nb := 2 * N + B.T) (h0 := 2 * N) (hw := 2 * N + w) (C := (Y i).C) take h.cf.lay hQ)
      rw [updN_zero] at h1
      exact h1
    | step w T i2 z hq ha =>
      obtain ⟨_, g2⟩ := ih.step hok (fun _ => rfl) hq ha (fun j => (h.fit i (by omega) j).1) (dl := 1) (.inr (Nat.le_refl _))
      exact fun k T' i' hk => (g2 k T' i' hk).again.more (Nat.zero_le _)
    | pass k hk => exact ih
/-- What Finish answers where there are no more than four threads with sixteen places. -/
structure Fin4 (W w : World) (l : List Thing) (B : YB) (N : Nat) (Yf : Nat → Yd) (n : Nat) (J : Nat → Nat) (w' : World) (s j : Nat) (l' : List Thing) (Y' : Yd) (J' : Nat → Nat) (Yg : Nat → Yd) : Prop where
  yd : YdL W w' l' B N Y' J' (n + s)
  tr : YTr B N Yg (n + s)
  at' : Yg (n + s) = Y'
  same : ∀ i, i ≤ n → Yg i = Yf i
  tick : Tick B N (Yf n) j Y' s
  few : s ≤ 5924
  go : YGo (Yf n) Y' l l' J J'
  idle : ∀ k, k < B.T → Y'.ts[k]? = some none
set_option maxRecDepth 100000 in
theorem fin4_any {W w : World} {l : List Thing} {B : YB} {N n : Nat} {Yf : Nat → Yd} {J : Nat → Nat} (h : YdL W w l B N (Yf n) J n) (ht : YTr B N Yf n) (hn : n < 990000) (t4 : B.T ≤ 4) (n16 : N ≤ 16) (s4 : B.s ≤ 4) (d3 : B.d ≤ 3) :
    Calls Tryz.prog 30 #[pt B.yb] w fun r w' => ∃ (s j : Nat) (l' : List Thing) (Y' : Yd) (J' : Nat → Nat) (Yg : Nat → Yd), r = .returned (i64 s) ∧ Fin4 W w l B N Yf n J w' s j l' Y' J' Yg := by
  have hT := h.hT
  have hs1 := h.cf.lay.s1
  have ht1 := h.cf.lay.t1
  have hd0 := h.cf.d0
  have hm : 0 ≤ most B.t B.so B.d ∧ most B.t B.so B.d ≤ 6 := by
    unfold most
    repeat' split
    all_goals omega
  have hst : 0 ≤ B.s * (B.t + 1) ∧ B.s * (B.t + 1) ≤ 20 := ⟨Int.mul_nonneg (by omega) (by omega), by
    have h1 : B.s * (B.t + 1) ≤ 4 * (B.t + 1) := Int.mul_le_mul_of_nonneg_right s4 (by omega)
    omega⟩
  obtain ⟨Q, hQ⟩ : ∃ Q : Nat, B.s * (B.t + 1) + most B.t B.so B.d + 2 = (Q : Int) := ⟨(B.s * (B.t + 1) + most B.t B.so B.d + 2).toNat, by omega⟩
  have hbk := ht.books hQ n (Nat.le_refl _)
  have hbu := busy_le h.ok
  have hf : FinM (plOf B N) B.T Q 296 (Yf n) 5924 := (FinM.of (t := B.T) (b := 296) hbk).mono (by
    have h1 : busyN (Yf n) * (B.T * 296 + 1) ≤ 4 * (4 * 296 + 1) := Nat.mul_le_mul (by omega) (by omega)
    omega)
  have h2 : B.T * (4 * N + 10) ≤ 296 := Nat.le_trans (Nat.mul_le_mul t4 (show 4 * N + 10 ≤ 74 by omega)) (by decide)
  refine (fin_any h ht hf (by omega) h2 (by omega)).mono ?_
  rintro r w' ⟨s, j, l', Y', J', Yg, rfl, h3, h4⟩
  exact ⟨s, j, l', Y', J', Yg, rfl, h3.yd, h3.tr, h3.at', h3.same, h3.tick, h3.few, h3.go, h4⟩

theorem fin19 {j s : Nat} {Y : Yd} (h : Tick B19 2 Y19 j Y s) (hi : ∀ k, k < 2 → Y.ts[k]? = some none) : s = 4 := by
  have h7 : ∀ a, a ∈ (lookF B19 2 (fun _ => 0) Y19 7).1.ts → a = none := fun a ha => by
    have e : (lookF B19 2 (fun _ => 0) Y19 7).1.ts = [none, none] := rfl
    rw [e] at ha
    simpa using ha
  have hst := look_stay h7
  have hl := h.look (z := fun _ => 0) (fun j T i z' hk _ => by
    rcases Nat.lt_or_ge j 7 with hj | hj
    · rcases l19_ts j (by omega) with ⟨k, q, e⟩ | ⟨e, _⟩
      · rw [e] at hk
        rcases (show j % 2 = 0 ∨ j % 2 = 1 by omega) with e2 | e2
        · have hk' : [some (Wk.pu k, q), none][j % 2]? = some (some (T, i)) := hk
          rw [e2] at hk'
          cases hk'
          rfl
        · have hk' : [some (Wk.pu k, q), none][j % 2]? = some (some (T, i)) := hk
          rw [e2] at hk'
          cases hk'
      · omega
    · obtain ⟨k, rfl⟩ : ∃ k, j = 7 + k := ⟨j - 7, by omega⟩
      rw [hst] at hk
      have := h7 _ (List.mem_of_getElem? hk)
      cases this)
  rcases Nat.lt_or_ge j 7 with hj | hj
  · rcases l19_ts j (by omega) with ⟨k, q, e⟩ | ⟨e, _⟩
    · rw [hl] at e
      have := hi 0 (by decide)
      have e' : Y.ts = _ := e
      rw [e'] at this
      cases this
    · omega
  · obtain ⟨k, rfl⟩ : ∃ k, j = 7 + k := ⟨j - 7, by omega⟩
    rw [hst] at hl
    have e := congrArg Prod.snd hl
    exact e.symm.trans rfl

/-- A call that puts in is begun by a thread that has none. -/
theorem pdo_put {B : YB} {N : Nat} {Y Y' : Yd} {k : Nat} {e x a : Int} (h : PDo B N ⟨0, k, 0, e, x, 0, 0⟩ Y Y' a) (hk : (k : Int) < B.t) (he : e = 0 ∨ e = 1) (hq : Y.ts[k]? = some Option.none) : a = 0 ∧ Y' = Y.call k 0 e x 0 (wkB B N k false e x 0) := by
  have ha : CM.asks ⟨0, k, 0, e, x, 0, 0⟩ := ⟨.inl rfl, he⟩
  cases h with
  | out h hw =>
    rcases hw with hw | hw | hw
    · have hw' : (k : Int) < 0 := hw
      omega
    · have hw' : B.t ≤ (k : Int) := hw
      omega
    · exact absurd ha hw
  | busy k' a' h hw ha' hb =>
    have hw' : (k : Int) = k' := hw
    obtain rfl : k = k' := by omega
    rw [hq] at hb
    cases hb
  | call k' take h hw hk' he' hq' =>
    have hw' : (k : Int) = k' := hw
    obtain rfl : k = k' := by omega
    cases take with
    | false => exact ⟨rfl, rfl⟩
    | true => exact absurd (show (1 : Int) = 0 from hk') (by decide)
  | none h => exact absurd (show (0 : Int) = 1 from h) (by decide)
  | step k' T i z h => exact absurd h (by show ¬ (0 : Int) = 1; decide)
  | pass h => exact absurd h (by show ¬ (0 : Int) = 2; decide)
  | still h => exact absurd h (by show ¬ (0 : Int) = 2; decide)
  | other h0 => exact absurd rfl h0
theorem y19_of {yb ytb p c : Nat} {Yf : Nat → Yd} {An : List Int} (h : PTr ⟨yb, ytb, p, c, (2 : Nat), 1, 0, 0, 2⟩ 2 [⟨0, 0, 0, 0, 7, 0, 0⟩] Yf An) : Yf 1 = Y19 := by
  obtain ⟨a, ha⟩ : ∃ a, An[0]? = some a := ⟨_, List.getElem?_eq_getElem (by rw [h.len]; decide)⟩
  have h1 := h.at' 0 _ a rfl ha
  have hz : Yf 0 = yd0 2 2 := h.tr.zero
  rw [hz] at h1
  have h2 := (pdo_put (k := 0) (e := 0) (x := 7) h1 (by show (0 : Int) < (2 : Nat); decide) (.inl rfl) rfl).2
  exact h2
theorem lay212 : Lay ((2 : Nat) : Int) 1 ((2 : Nat) : Int) := ⟨by decide, by decide, by decide, by decide, by decide, by decide, by decide, by decide⟩

set_option maxRecDepth 100000 in
set_option maxHeartbeats 4000000 in
theorem head19_any (w : World) : Calls Tryz.prog 11 #[] w fun r w' => r = .returned (.bool true) ∧ Below w.heap.size w w' := by
  have hI := (isat_one w ⟨0, 0, 0, 0, 7, 0, 0⟩).later (below_new (Below.refl _ _) (.cells #[.int .i64 2, .int .i64 1, .int .i64 0, .int .i64 0, .slice (some ⟨w.heap.size, 0, none⟩) 1 1] 29))
  have HI := Lib.hid hI
  have HB := Lib.hid (below_new (below_new (Below.refl w.heap.size w) ((⟨0, 0, 0, 0, 7, 0, 0⟩ : CM).obj 39)) (.cells #[.int .i64 2, .int .i64 1, .int .i64 0, .int .i64 0, .slice (some ⟨w.heap.size, 0, none⟩) 1 1] 29))
  clear hI
  go_enter Tryz.func11, Tryz.ntmps11
  go_wp2_with fail
  refine (prun_any 2 1 0 0 2 (some ⟨w.heap.size, 0, none⟩) 1 [⟨0, 0, 0, 0, 7, 0, 0⟩] _ HI.out (fun m hm => by rw [List.mem_singleton.1 hm]; exact ⟨by decide, by decide⟩) (by decide) lay212 (by decide) (by decide) (by decide) (by decide)).mono ?_
  rintro r w2 ⟨W, l, yb, ytb, p, c, Yf, An, J, g, rfl, hb, hP⟩
  have HBW := Lib.hid (below_step HB.out hb)
  have HP := Lib.hid hP
  clear hb hP HB HI
  simp only [List.length_cons, List.length_nil]
  go_wp2_with fail
  refine (fin4_any (n := 1) HP.out.yd HP.out.tr.tr (by decide) (by show 2 ≤ 4; decide) (by decide) (by show (1 : Int) ≤ 4; decide) (by show (0 : Int) ≤ 3; decide)).mono ?_
  rintro r w3 ⟨s, j, l', Y', J', Yg, rfl, hF⟩
  have hs : s = 4 := fin19 (j := j) (Y := Y') (by have h := hF.tick.like (B' := B19) ⟨rfl, rfl, rfl, rfl, rfl⟩; rw [y19_of HP.out.tr] at h; exact h) (fun k hk => hF.idle k hk)
  subst hs
  have HF := Lib.hid hF
  clear hF HP
  go_wp2_with fail
  refine (HF.out.yd.busy 0 false ⟨none, HF.out.idle 0 (by show 0 < 2; decide), rfl⟩).mono ?_
  rintro r w4 ⟨rfl, rfl⟩
  have HZ := Lib.hid (below_step HBW.out HF.out.yd.h.below)
  go_wp2_with fail
  go_ret
  exact ⟨rfl, HZ.out⟩
end Go.Proofs.YtpfjommkjkbonaaGreat
