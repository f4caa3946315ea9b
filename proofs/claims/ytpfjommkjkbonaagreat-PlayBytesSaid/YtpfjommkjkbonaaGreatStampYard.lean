/-
  The stamps of a yard's puts: of two puts of which the one was over ahead of the other's beginning its stamp is before that one's; all are right. No Go. No condition.
-/
import Derived.Test.YtpfjommkjkbonaaGreatTickYard
import Derived.Test.YtpfjommkjkbonaaGreatAuditCount
namespace Go.Proofs.YtpfjommkjkbonaaGreat
open Go.RowKit
set_option linter.unusedVariables false

section
variable {B : YB} {N n : Nat} {Y Y' : Yd} {w : Nat}
/-- A put's stamp as it is known in a yard. -/
structure SOk (B : YB) (N : Nat) (Y : Yd) : Prop where
  num : MostN (2 * N + B.T) Y.C Y.moves
  fresh : ∀ (i : Nat) (a : Dd), Y.ds[i]? = some a → a.kd = 0 → a.ok = true → ∀ k0 : Tk, k0.so = B.so → k0.t = B.t → k0.steps = 0 → Bel (2 * N + B.T) k0 Y.C Y.now a.hi
  freshT : ∀ (v : Nat) (k : Pu) (i : Nat), Y.ts[v]? = some (some (.pu k, i)) → k.tk.ph = 1 → ∀ k0 : Tk, k0.so = B.so → k0.t = B.t → k0.steps = 0 → Bel (2 * N + B.T) k0 Y.C Y.now k.tk.hi
  tick : ∀ (v : Nat) (k : Pu) (i : Nat), Y.ts[v]? = some (some (.pu k, i)) → k.tk.ph = 0 → Go1 (2 * N + B.T) k.tk Y.C Y.now Y.moves ∧ ∀ (j : Nat) (a d : Dd), Y.ds[j]? = some a → a.kd = 0 → a.ok = true → Y.ds[i]? = some d → a.till < d.fr → Bel (2 * N + B.T) k.tk Y.C Y.now a.hi
  made : ∀ (v : Nat) (k : Pu) (i : Nat), Y.ts[v]? = some (some (.pu k, i)) → k.tk.ph = 1 → ∀ (j : Nat) (a d : Dd), Y.ds[j]? = some a → a.kd = 0 → a.ok = true → Y.ds[i]? = some d → a.till < d.fr → a.hi < k.tk.lo
  right : ∀ (j : Nat) (a : Dd), Y.ds[j]? = some a → a.kd = 0 → a.ok = true → 0 ≤ a.lo ∧ a.lo ≤ a.hi ∧ a.hi < 16777215
  order : ∀ (i j : Nat) (a b : Dd), Y.ds[i]? = some a → Y.ds[j]? = some b → a.kd = 0 → a.ok = true → b.kd = 0 → b.ok = true → a.till < b.fr → a.hi < b.lo

theorem SOk.start (C : List Int) (hC : ∀ j, C.getD j 0 = 0) (T : Nat) : SOk B N ⟨C, [], 0, 0, List.replicate T none, []⟩ := by
  have hn : ∀ (w : Nat) (x : Wk × Nat), (List.replicate T (none : Option (Wk × Nat)))[w]? ≠ some (some x) := fun w x h => by
    rw [List.getElem?_replicate] at h
    split at h <;> cases h
  exact ⟨fun j _ => by show 0 ≤ C.getD j 0 ∧ C.getD j 0 ≤ ((0 : Nat) : Int); rw [hC]; exact ⟨Int.le_refl _, Int.le_refl _⟩, fun i a h => by simp at h, fun v k i h => absurd h (hn v _), fun v k i h => absurd h (hn v _), fun v k i h => absurd h (hn v _), fun j a h => by simp at h, fun i j a b h => by simp at h⟩

/-- A get turns no number. -/
theorem ge_far {k : Ge} {i : Nat} (ho : YOk (plOf B N) B.T n Y) (hw : Y.ts[w]? = some (some (.ge k, i))) : ∀ q, 2 * N + B.T ≤ q → (k.cells N (2 * N + w) Y.C).getD q 0 = Y.C.getD q 0 := by
  intro q hq
  have hF := ho.getF hw
  have hwT := hF.wT
  unfold Ge.cells
  split
  · rfl
  · cases hta : k.ta with
    | none => rfl
    | some a =>
      obtain ⟨_, _, b3, b4, _⟩ := hF.ta a hta
      show (a.cells a.slot.toNat (2 * N + w) Y.C).getD q 0 = _
      unfold Ta.cells
      split
      · rfl
      · split
        · exact getD_set_ne' _ (by omega)
        · split
          · rfl
          · split
            · rfl
            · split
              · split
                · exact getD_set_ne' _ (by omega)
                · rfl
              · exact getD_set_ne' _ (by omega)
/-- What a step turns, of the numbers. -/
theorem nums_step (h : SOk B N Y) (hA : AOk B N Y) (ho : YOk (plOf B N) B.T n Y) (hc : YCf B N) (hT : (B.T : Int) = B.t) (hl : (Y.C.length : Int) = 2 * N + 2 * B.t) (hn : n < 1000000) {T : Wk} {i : Nat} (hw : Y.ts[w]? = some (some (T, i))) :
    MostN (2 * N + B.T) (T.cells (plOf B N w) Y.C Y.now) (Y.moves + 1) ∧ UpN (2 * N + B.T) B.so w B.t Y.C (T.cells (plOf B N w) Y.C Y.now) := by
  have far : ∀ C' : List Int, (∀ q, 2 * N + B.T ≤ q → C'.getD q 0 = Y.C.getD q 0) → MostN (2 * N + B.T) C' (Y.moves + 1) ∧ UpN (2 * N + B.T) B.so w B.t Y.C C' := fun C' hf =>
    ⟨fun j hj => by have := h.num j hj; rw [hf j hj]; omega, ⟨fun j hj => by rw [hf j hj]; exact Int.le_refl _, fun _ j _ _ => hf _ (by omega)⟩⟩
  cases T with
  | ge k => exact far _ (ge_far ho hw)
  | pu k =>
    have hF := ho.putF hc hT hl hw
    have hok := hF.ok
    have b1 := hF.lo
    have b2 := hF.hi
    have b3 := hF.n1
    obtain ⟨m0, _⟩ := hc.own hT hF.wT
    have hnp : ¬ k.ph ≠ 0 := by have := hF.ph; omega
    show MostN _ (k.cells N (2 * N + B.T) Y.C Y.now) _ ∧ UpN _ _ _ _ _ (k.cells N (2 * N + B.T) Y.C Y.now)
    rcases hok.at' hF.ph with ⟨a1, a2, a3⟩ | ⟨a1, a2, a3⟩ | ⟨a1, a2, a3⟩ | ⟨a1, a2, a3⟩
    · have e2 : k.cells N (2 * N + B.T) Y.C Y.now = Y.C := by unfold Pu.cells; rw [if_neg hnp, if_pos a1]
      rw [e2]
      exact far _ (fun _ _ => rfl)
    · have e2 : k.cells N (2 * N + B.T) Y.C Y.now = (stp (2 * N + B.T) k.tk Y.C Y.now).2.1 := by unfold Pu.cells; rw [if_neg hnp, if_neg (by omega), if_pos a1]
      rw [e2]
      obtain ⟨g1, g2⟩ := h.tick w k i hw a3
      have hso := (hA.put w k i hw).so'
      have hmv := ho.most
      obtain ⟨_, q2, q3⟩ := adv_yard (now' := Y.tick) hok.tk g1 h.num (by omega) (by omega) ho.now0 (by have := ho.now1; unfold Yd.tick; unfold yMax at *; split <;> omega) (fun hlt => by unfold Yd.tick; unfold yMax; rw [if_pos (by omega)]; omega)
      refine ⟨q2, ?_⟩
      rw [hso, hok.tw, hok.tt, hF.who, hF.t] at q3
      exact q3
    · have e2 : k.cells N (2 * N + B.T) Y.C Y.now = Y.C.set (N + k.cl.slot.toNat) k.value := by unfold Pu.cells; rw [if_neg hnp, if_neg (by omega), if_neg (by omega), if_pos a1]
      rw [e2]
      exact far _ (fun q hq => getD_set_ne' _ (by omega))
    · have e2 : k.cells N (2 * N + B.T) Y.C Y.now = Y.C.set k.cl.slot.toNat k.pack := by unfold Pu.cells; rw [if_neg hnp, if_neg (by omega), if_neg (by omega), if_neg (by omega)]
      rw [e2]
      exact far _ (fun q hq => getD_set_ne' _ (by omega))
theorem tick_ge (h0 : 0 ≤ Y.now) (h1 : Y.now ≤ yMax) : Y.now ≤ Y.tick ∧ (Y.now < 16777215 → Y.now < Y.tick) := by
  unfold Yd.tick
  unfold yMax at *
  split <;> omega
end

section
variable {B : YB} {N n : Nat} {Y Y' : Yd} {w : Nat}
/-- What was known of deeds is known of them still, where numbers go on. -/
theorem SOk.next (h : SOk B N Y) (hA : AOk B N Y) (hC : COk B N Y) (ho : YOk (plOf B N) B.T n Y) (hc : YCf B N) (hT : (B.T : Int) = B.t) (hl : (Y.C.length : Int) = 2 * N + 2 * B.t) (hn : n < 1000000) (hm : YHow B N Y Y') : SOk B N Y' := by
  cases hm with
  | rest => exact h
  | pass m hm =>
    have hle : Y.now ≤ (Y.pass m).now := by
      show Y.now ≤ (if m > yMax - Y.now then yMax else Y.now + m)
      have := ho.now1
      split <;> omega
    exact ⟨h.num, fun i a p1 p2 p3 k0 q1 q2 q3 => (h.fresh i a p1 p2 p3 k0 q1 q2 q3).upN (fun _ _ => Int.le_refl _) hle, fun v k i p1 p2 k0 q1 q2 q3 => (h.freshT v k i p1 p2 k0 q1 q2 q3).upN (fun _ _ => Int.le_refl _) hle,
      fun v k i p1 p2 => ⟨(h.tick v k i p1 p2).1.same (fun _ _ => rfl) hle (Int.le_refl _), fun j a d q1 q2 q3 q4 q5 => ((h.tick v k i p1 p2).2 j a d q1 q2 q3 q4 q5).upN (fun _ _ => Int.le_refl _) hle⟩, h.made, h.right, h.order⟩
  | call w take kd e x s hw he hk =>
    have hwT : w < B.T := by rw [← ho.len]; exact (List.getElem?_eq_some_iff.1 hw).1
    have old : ∀ {j : Nat} {a : Dd}, (Y.call w kd e x s (wkB B N w take e x s)).ds[j]? = some a → a.ok = true → Y.ds[j]? = some a := fun {j a} hj hok => by
      rcases ysnoc hj with ⟨_, e2⟩ | ⟨_, e2⟩
      · rw [e2] at hok
        cases hok
      · exact e2
    have oldT : ∀ {v : Nat} {k : Pu} {i : Nat} {d : Dd}, Y.ts[v]? = some (some (.pu k, i)) → (Y.call w kd e x s (wkB B N w take e x s)).ds[i]? = some d → Y.ds[i]? = some d := fun {v k i d} hv hd => by
      obtain ⟨_, _, _, _, d0, k5, _⟩ := ho.task v _ i hv
      rcases ysnoc hd with ⟨e1, _⟩ | ⟨_, e2⟩
      · have := (List.getElem?_eq_some_iff.1 k5).1
        omega
      · exact e2
    have hmM : ((Y.call w kd e x s (wkB B N w take e x s)).moves : Int) = Y.moves + 1 := by show ((Y.moves + 1 : Nat) : Int) = _; omega
    refine ⟨by rw [hmM]; exact mostN_up h.num (by omega), fun i a p1 p2 p3 => h.fresh i a (old p1 p3) p2 p3, fun v k i p1 p2 => ?_, fun v k i p1 p2 => ?_, fun v k i p1 p2 j a d q1 q2 q3 q4 q5 => ?_, fun j a p1 p2 p3 => h.right j a (old p1 p3) p2 p3, fun i j a b p1 p2 p3 p4 p5 p6 => h.order i j a b (old p1 p4) (old p2 p6) p3 p4 p5 p6⟩
    · rcases acall_ts p1 with ⟨rfl, hq⟩ | ⟨_, hq⟩
      · have := wkB_pu hq
        subst this
        cases p2
      · exact h.freshT v k i hq p2
    · rcases yset p1 with ⟨rfl, hq, _⟩ | ⟨_, hq⟩
      · have hq1 : Wk.pu k = wkB B N w take e x s := (Prod.mk.inj (Option.some.inj hq)).1
        have := wkB_pu hq1
        subst this
        refine ⟨⟨rfl, fun _ => by show (0 : Int) ≤ _; omega, fun _ hh => absurd rfl hh, fun _ hh => absurd hh (by show ¬ (3 : Int) ≤ 0; decide), fun _ hh => ?_, fun _ hh => absurd rfl hh⟩, fun j a d q1 q2 q3 _ _ => h.fresh j a (old q1 q3) q2 q3 _ rfl rfl rfl⟩
        have hh' : (w : Int) < 0 := hh
        omega
      · obtain ⟨g1, g2⟩ := h.tick v k i hq p2
        exact ⟨g1.same (fun _ _ => rfl) (Int.le_refl _) (by rw [hmM]; omega), fun j a d q1 q2 q3 q4 q5 => g2 j a d (old q1 q3) q2 q3 (oldT hq q4) q5⟩
    · rcases yset p1 with ⟨rfl, hq, _⟩ | ⟨_, hq⟩
      · have hq1 : Wk.pu k = wkB B N w take e x s := (Prod.mk.inj (Option.some.inj hq)).1
        have := wkB_pu hq1
        subst this
        cases p2
      · exact h.made v k i hq p2 j a d (old q1 q3) q2 q3 (oldT hq q4) q5
  | step w T i z hw ha =>
    obtain ⟨k1, k2, k3, k4, d0, k5, k6, k7, k8, _⟩ := ho.task w T i hw
    have hwT : w < B.T := by rw [← ho.len]; exact (List.getElem?_eq_some_iff.1 hw).1
    obtain ⟨hnum, hup⟩ := nums_step h hA ho hc hT hl hn hw
    obtain ⟨t1, t2⟩ := tick_ge ho.now0 ho.now1
    have hmM : ((Y.step (plOf B N w) w T i z).moves : Int) = Y.moves + 1 := by show ((Y.moves + 1 : Nat) : Int) = _; omega
    have hkd := hC.kind w T i d0 hw k5
    have hfr0 : ∀ (j : Nat) (b : Dd), Y.ds[j]? = some b → b.fr < Y.moves := fun j b hb => (ho.deed j b hb).2.2.1
    have bel : ∀ {k : Tk} {hh : Int}, Bel (2 * N + B.T) k Y.C Y.now hh → Bel (2 * N + B.T) k (T.cells (plOf B N w) Y.C Y.now) Y.tick hh := fun hb => hb.upN hup.up t1
    -- a deed behind the step
    have deed : ∀ {j : Nat} {a : Dd}, (Y.step (plOf B N w) w T i z).ds[j]? = some a → (Y.ds[j]? = some a) ∨ (j = i ∧ (T.step (plOf B N w) Y.C Y.now z).ph ≠ 0 ∧ a = d0.over Y.moves (T.step (plOf B N w) Y.C Y.now z)) := fun {j a} hj => by
      have hj' : (if (T.step (plOf B N w) Y.C Y.now z).ph = 0 then Y.ds else Y.ds.modify i (fun d => d.over Y.moves (T.step (plOf B N w) Y.C Y.now z)))[j]? = some a := hj
      split at hj'
      · exact .inl hj'
      · rename_i hp
        rcases ymod hj' with ⟨e1, d1, e2, e3⟩ | ⟨_, e2⟩
        · subst e1
          rw [k5] at e2
          cases e2
          exact .inr ⟨rfl, hp, e3⟩
        · exact .inl e2
    -- a put that is over behind the step: it was, or it is this one
    have done : ∀ {j : Nat} {a : Dd}, (Y.step (plOf B N w) w T i z).ds[j]? = some a → a.kd = 0 → a.ok = true → (Y.ds[j]? = some a) ∨ (∃ k : Pu, T = .pu k ∧ k.tk.ph = 1 ∧ j = i ∧ a.till = Y.moves ∧ a.fr = d0.fr ∧ a.lo = k.tk.lo ∧ a.hi = k.tk.hi) := fun {j a} hj hk0 hok => by
      rcases deed hj with hd | ⟨e1, hp, rfl⟩
      · exact .inl hd
      · right
        have s := Dd.over_same d0 Y.moves (T.step (plOf B N w) Y.C Y.now z)
        have hp1 : (T.step (plOf B N w) Y.C Y.now z).ph = 1 := by
          by_cases hq : (T.step (plOf B N w) Y.C Y.now z).ph = 1
          · exact hq
          · unfold Dd.over at hok
            rw [if_neg hq] at hok
            rw [show d0.ok = false from k8] at hok
            cases hok
        cases T with
        | ge g =>
          have : (d0.over Y.moves ((Wk.ge g).step (plOf B N w) Y.C Y.now z)).kd = d0.kd := by unfold Dd.over; split <;> rfl
          rw [this, hkd] at hk0
          exact absurd hk0 (by show ¬ (kdI true = 0); decide)
        | pu k =>
          have hF := ho.putF hc hT hl hw
          have hnp : ¬ k.ph ≠ 0 := by have := hF.ph; omega
          have hp1' : (k.step ((w : Int) * B.s) (2 * N + B.T) (2 * N) Y.C Y.now).ph = 1 := hp1
          rcases hF.ok.at' hF.ph with ⟨a1, a2, a3⟩ | ⟨a1, a2, a3⟩ | ⟨a1, a2, a3⟩ | ⟨a1, a2, a3⟩
          · exfalso
            unfold Pu.step at hp1'
            rw [if_neg hnp, if_pos a1] at hp1'
            exact after_ph _ _ (by exact Classical.not_not.1 hnp) hp1'
          · exfalso
            unfold Pu.step at hp1'
            rw [if_neg hnp, if_neg (by omega), if_pos a1] at hp1'
            exact after_ph _ _ (by exact Classical.not_not.1 hnp) hp1'
          · exfalso
            unfold Pu.step at hp1'
            rw [if_neg hnp, if_neg (by omega), if_neg (by omega), if_pos a1] at hp1'
            have : k.ph = 1 := hp1'
            omega
          · have e3 : k.step ((w : Int) * B.s) (2 * N + B.T) (2 * N) Y.C Y.now = { k with ph := 1 } := by unfold Pu.step; rw [if_neg hnp, if_neg (by omega), if_neg (by omega), if_neg (by omega)]
            refine ⟨k, rfl, a3, e1, ?_⟩
            have e4 : d0.over Y.moves ((Wk.pu k).step (plOf B N w) Y.C Y.now z) = { d0 with till := Y.moves, ok := true, v := 0, lo := k.tk.lo, hi := k.tk.hi } := by
              show d0.over Y.moves (.pu (k.step ((w : Int) * B.s) (2 * N + B.T) (2 * N) Y.C Y.now)) = _
              rw [e3]
              rfl
            rw [e4]
            exact ⟨rfl, rfl, rfl, rfl⟩
    -- what another task's deed was
    have oldT : ∀ {v : Nat} {k : Pu} {i2 : Nat} {d : Dd}, Y.ts[v]? = some (some (.pu k, i2)) → v ≠ w → (Y.step (plOf B N w) w T i z).ds[i2]? = some d → Y.ds[i2]? = some d := fun {v k i2 d} hv hne hd => by
      rcases deed hd with h1 | ⟨e1, _, _⟩
      · exact h1
      · obtain ⟨_, _, _, _, d2, q5, q6, _⟩ := ho.task v _ i2 hv
        rw [e1, k5] at q5
        cases q5
        rw [k6] at q6
        omega
    -- this one's own step
    have own : ∀ (k' : Pu), T.step (plOf B N w) Y.C Y.now z = .pu k' → k'.ph = 0 →
        (k'.tk.ph = 0 → Go1 (2 * N + B.T) k'.tk (T.cells (plOf B N w) Y.C Y.now) Y.tick (Y.moves + 1) ∧ ∀ (j : Nat) (a : Dd), Y.ds[j]? = some a → a.kd = 0 → a.ok = true → a.till < d0.fr → Bel (2 * N + B.T) k'.tk (T.cells (plOf B N w) Y.C Y.now) Y.tick a.hi) ∧
        (k'.tk.ph = 1 → (∀ (j : Nat) (a : Dd), Y.ds[j]? = some a → a.kd = 0 → a.ok = true → a.till < d0.fr → a.hi < k'.tk.lo) ∧ ∀ k0 : Tk, k0.so = B.so → k0.t = B.t → k0.steps = 0 → Bel (2 * N + B.T) k0 (T.cells (plOf B N w) Y.C Y.now) Y.tick k'.tk.hi) := by
      intro k' hk' hp0
      cases T with
      | ge g => cases hk'
      | pu k =>
        have hF := ho.putF hc hT hl hw
        have hok := hF.ok
        have b1 := hF.lo
        have b2 := hF.hi
        have b3 := hF.n1
        obtain ⟨m0, _⟩ := hc.own hT hF.wT
        have hnp : ¬ k.ph ≠ 0 := by have := hF.ph; omega
        have hk2 : k.step ((w : Int) * B.s) (2 * N + B.T) (2 * N) Y.C Y.now = k' := by cases hk'; rfl
        rcases hok.at' hF.ph with ⟨a1, a2, a3⟩ | ⟨a1, a2, a3⟩ | ⟨a1, a2, a3⟩ | ⟨a1, a2, a3⟩
        · have e2 : (Wk.pu k).cells (plOf B N w) Y.C Y.now = Y.C := by show k.cells N (2 * N + B.T) Y.C Y.now = _; unfold Pu.cells; rw [if_neg hnp, if_pos a1]
          have e3 : k'.tk = k.tk := by
            rw [← hk2]
            unfold Pu.step
            rw [if_neg hnp, if_pos a1]
            exact Pu.after_tk _ _
          rw [e3, e2]
          obtain ⟨g1, g2⟩ := h.tick w k i hw a3
          exact ⟨fun _ => ⟨g1.same (fun _ _ => rfl) t1 (by omega), fun j a q1 q2 q3 q4 => (g2 j a d0 q1 q2 q3 k5 q4).upN (fun _ _ => Int.le_refl _) t1⟩, fun hh => by omega⟩
        · have e2 : (Wk.pu k).cells (plOf B N w) Y.C Y.now = (stp (2 * N + B.T) k.tk Y.C Y.now).2.1 := by show k.cells N (2 * N + B.T) Y.C Y.now = _; unfold Pu.cells; rw [if_neg hnp, if_neg (by omega), if_pos a1]
          have e3 : k'.tk = (stp (2 * N + B.T) k.tk Y.C Y.now).1 := by
            rw [← hk2]
            unfold Pu.step
            rw [if_neg hnp, if_neg (by omega), if_pos a1]
            exact Pu.after_tk _ _
          obtain ⟨g1, g2⟩ := h.tick w k i hw a3
          have hmv := ho.most
          have hso := (hA.put w k i hw).so'
          obtain ⟨q1, _, _⟩ := adv_yard (now' := Y.tick) hok.tk g1 h.num (by omega) (by omega) ho.now0 t1 t2
          rw [e3, e2]
          rcases q1 with ⟨r1, r2, r3⟩ | ⟨r1, r2, r3, r4, r5, r6⟩ | r1
          · exact ⟨fun _ => ⟨r2, fun j a s1 s2 s3 s4 => r3 _ (h.right j a s1 s2 s3).2.2 (g2 j a d0 s1 s2 s3 k5 s4)⟩, fun hh => by omega⟩
          · exact ⟨fun hh => by omega, fun _ => ⟨fun j a s1 s2 s3 s4 => r5 _ (h.right j a s1 s2 s3).2.2 (g2 j a d0 s1 s2 s3 k5 s4), fun k0 s1 s2 s3 => r6 k0 (by rw [hso]; exact s1) (by rw [hok.tt, hF.t]; exact s2) s3⟩⟩
          · exact ⟨fun hh => by omega, fun hh => by omega⟩
        · have e3 : k'.tk = k.tk := by
            rw [← hk2]
            unfold Pu.step
            rw [if_neg hnp, if_neg (by omega), if_neg (by omega), if_pos a1]
          rw [e3]
          exact ⟨fun hh => by omega, fun _ => ⟨fun j a s1 s2 s3 s4 => h.made w k i hw a3 j a d0 s1 s2 s3 k5 s4, fun k0 s1 s2 s3 => bel (h.freshT w k i hw a3 k0 s1 s2 s3)⟩⟩
        · exfalso
          rw [← hk2] at hp0
          unfold Pu.step at hp0
          rw [if_neg hnp, if_neg (by omega), if_neg (by omega), if_neg (by omega)] at hp0
          exact absurd hp0 (by show ¬ (1 : Int) = 0; decide)
    -- the deed of a task that goes on is as it was
    have d0' : ∀ {d : Dd}, (T.step (plOf B N w) Y.C Y.now z).ph = 0 → (Y.step (plOf B N w) w T i z).ds[i]? = some d → d = d0 := fun {d} hp hd => by
      rcases deed hd with h1 | ⟨_, hp2, _⟩
      · rw [k5] at h1
        cases h1
        rfl
      · exact absurd hp hp2
    have tsi : ∀ {k' : Pu} {i2 : Nat}, (Y.step (plOf B N w) w T i z).ts[w]? = some (some (.pu k', i2)) → i2 = i := fun {k' i2} hv => by
      have h' : (if (T.step (plOf B N w) Y.C Y.now z).ph = 0 then Y.ts.set w (some (T.step (plOf B N w) Y.C Y.now z, i)) else Y.ts.set w Option.none)[w]? = some (some (Wk.pu k', i2)) := hv
      split at h'
      · rcases yset h' with ⟨_, e2, _⟩ | ⟨e1, _⟩
        · exact (Prod.mk.inj (Option.some.inj e2)).2
        · exact absurd rfl e1
      · rcases yset h' with ⟨_, e2, _⟩ | ⟨e1, _⟩
        · cases e2
        · exact absurd rfl e1
    refine ⟨by rw [hmM]; exact hnum, fun j a p1 p2 p3 k0 q1 q2 q3 => ?_, fun v k j p1 p2 k0 q1 q2 q3 => ?_, fun v k j p1 p2 => ?_, fun v k j p1 p2 j2 a d q1 q2 q3 q4 q5 => ?_, fun j a p1 p2 p3 => ?_, fun j1 j2 a b p1 p2 p3 p4 p5 p6 p7 => ?_⟩
    · show Bel (2 * N + B.T) k0 (T.cells (plOf B N w) Y.C Y.now) Y.tick a.hi
      rcases done p1 p2 p3 with hd | ⟨k, rfl, r1, _, _, _, _, r5⟩
      · exact bel (h.fresh j a hd p2 p3 k0 q1 q2 q3)
      · rw [r5]
        exact bel (h.freshT w k i hw r1 k0 q1 q2 q3)
    · show Bel (2 * N + B.T) k0 (T.cells (plOf B N w) Y.C Y.now) Y.tick k.tk.hi
      rcases astep_ts p1 with ⟨rfl, hq, h0⟩ | ⟨hv, hq⟩
      · rw [← hq] at h0
        exact ((own k hq.symm h0).2 p2).2 k0 q1 q2 q3
      · exact bel (h.freshT v k j hq p2 k0 q1 q2 q3)
    · show Go1 (2 * N + B.T) k.tk (T.cells (plOf B N w) Y.C Y.now) Y.tick ((Y.step (plOf B N w) w T i z).moves : Int) ∧ _
      rw [hmM]
      rcases astep_ts p1 with ⟨rfl, hq, h0⟩ | ⟨hv, hq⟩
      · have h0' := h0
        rw [← hq] at h0
        obtain ⟨g1, g2⟩ := (own k hq.symm h0).1 p2
        have hji := tsi p1
        subst hji
        refine ⟨g1, fun j2 a d s1 s2 s3 s4 s5 => ?_⟩
        have hdd := d0' h0' s4
        subst hdd
        rcases done s1 s2 s3 with hd | ⟨_, _, _, _, r3, _⟩
        · exact g2 j2 a hd s2 s3 s5
        · have := hfr0 _ d k5
          omega
      · obtain ⟨g1, g2⟩ := h.tick v k j hq p2
        have hFv := ho.putF hc hT hl hq
        have hso := (hA.put v k j hq).so'
        have hvT := hFv.wT
        refine ⟨g1.upN (t := B.t) (who := w) (by rw [hso]; exact hup) (by rw [hFv.ok.tw, hFv.who]; omega) hFv.ok.tk.w0 (by have := hFv.ok.tk.w1; rw [hFv.ok.tt, hFv.t] at this; exact this) t1 (by omega), fun j2 a d s1 s2 s3 s4 s5 => ?_⟩
        have hdd := oldT hq hv s4
        rcases done s1 s2 s3 with hd | ⟨_, _, _, _, r3, _⟩
        · exact bel (g2 j2 a d hd s2 s3 hdd s5)
        · have := hfr0 _ d hdd
          omega
    · rcases astep_ts p1 with ⟨rfl, hq, h0⟩ | ⟨hv, hq⟩
      · have h0' := h0
        rw [← hq] at h0
        have g1 := ((own k hq.symm h0).2 p2).1
        have hji := tsi p1
        subst hji
        have hdd := d0' h0' q4
        subst hdd
        rcases done q1 q2 q3 with hd | ⟨_, _, _, _, r3, _⟩
        · exact g1 j2 a hd q2 q3 q5
        · have := hfr0 _ d k5
          omega
      · have hdd := oldT hq hv q4
        rcases done q1 q2 q3 with hd | ⟨_, _, _, _, r3, _⟩
        · exact h.made v k j hq p2 j2 a d hd q2 q3 hdd q5
        · have := hfr0 _ d hdd
          omega
    · rcases done p1 p2 p3 with hd | ⟨k, rfl, r1, _, _, _, r4, r5⟩
      · exact h.right j a hd p2 p3
      · rw [r4, r5]
        exact (ho.putF hc hT hl hw).ok.st r1
    · rcases done p2 p5 p6 with hd2 | ⟨k, rfl, r1, _, r2, r3, r4, r5⟩
      · rcases done p1 p3 p4 with hd1 | ⟨_, _, _, _, s2, _⟩
        · exact h.order j1 j2 a b hd1 hd2 p3 p4 p5 p6 p7
        · have := hfr0 _ b hd2
          omega
      · rcases done p1 p3 p4 with hd1 | ⟨_, _, _, _, s2, _⟩
        · rw [r4]
          exact h.made w k i hw r1 j1 a d0 hd1 p3 p4 k5 (by rw [← r3]; exact p7)
        · have := hfr0 _ d0 k5
          omega
end
end Go.Proofs.YtpfjommkjkbonaaGreat
