/-
  As many places are live as values were put in and not taken: as counts over a yard's places, deeds and tasks. No Go. No condition.
-/
import Derived.Test.YtpfjommkjkbonaaGreatAuditYard
namespace Go.Proofs.YtpfjommkjkbonaaGreat
open Go.RowKit
set_option linter.unusedVariables false

/-- A count over the first n numbers. -/
def cntN (p : Nat → Bool) : Nat → Nat
  | 0 => 0
  | n + 1 => cntN p n + if p n = true then 1 else 0
theorem cntN_same {p q : Nat → Bool} : ∀ {n : Nat}, (∀ j, j < n → q j = p j) → cntN q n = cntN p n
  | 0, _ => rfl
  | n + 1, h => by
    rw [cntN, cntN, cntN_same (fun j hj => h j (by omega)), h n (by omega)]
theorem cntN_one {p q : Nat → Bool} {c : Nat} : ∀ {n : Nat}, c < n → (∀ j, j ≠ c → q j = p j) → cntN q n + (if p c = true then 1 else 0) = cntN p n + (if q c = true then 1 else 0)
  | 0, hc, _ => by omega
  | n + 1, hc, h => by
    rw [cntN, cntN]
    by_cases e : c = n
    · subst e
      rw [cntN_same (fun j hj => h j (by omega))]
      omega
    · have ih := cntN_one (n := n) (by omega) h
      rw [h n (fun e2 => e e2.symm)]
      omega
theorem cntN_le (p : Nat → Bool) : ∀ n, cntN p n ≤ n
  | 0 => Nat.le_refl _
  | n + 1 => by
    have := cntN_le p n
    rw [cntN]
    split <;> omega
/-- How many places are so. -/
def stN (st : Int) (C : List Int) (N : Nat) : Nat := cntN (fun j => decide (C.getD j 0 % 4 = st)) N
theorem stN_all {C : List Int} : ∀ {N : Nat}, (∀ j, j < N → C.getD j 0 % 4 ≠ 3) → stN 0 C N + stN 1 C N + stN 2 C N = N
  | 0, _ => rfl
  | n + 1, h => by
    have ih := stN_all (N := n) (fun j hj => h j (by omega))
    have h1 := h n (by omega)
    unfold stN at ih ⊢
    rw [cntN, cntN, cntN]
    simp only [decide_eq_true_eq]
    rcases (by omega : C.getD n 0 % 4 = 0 ∨ C.getD n 0 % 4 = 1 ∨ C.getD n 0 % 4 = 2) with e | e | e
    · rw [if_pos e, if_neg (by omega), if_neg (by omega)]
      omega
    · rw [if_neg (by omega), if_pos e, if_neg (by omega)]
      omega
    · rw [if_neg (by omega), if_neg (by omega), if_pos e]
      omega
section
variable {C : List Int} {N c : Nat} {x : Int}
theorem live_far (h : N ≤ c) : stN 1 (C.set c x) N = stN 1 C N := cntN_same (fun j hj => by show decide _ = decide _; rw [getD_set_ne' x (by omega)])
theorem live_up (hc : c < N) (hl : c < C.length) (h0 : C.getD c 0 % 4 ≠ 1) (h1 : x % 4 = 1) : stN 1 (C.set c x) N = stN 1 C N + 1 := by
  have := cntN_one (p := fun j => decide (C.getD j 0 % 4 = 1)) (q := fun j => decide ((C.set c x).getD j 0 % 4 = 1)) hc (fun j hj => by show decide _ = decide _; rw [getD_set_ne' x (fun e => hj e.symm)])
  simp only [decide_eq_true_eq, getD_set_eq' x hl] at this
  rw [if_neg h0, if_pos h1] at this
  exact this
theorem live_down (hc : c < N) (hl : c < C.length) (h0 : C.getD c 0 % 4 = 1) (h1 : x % 4 ≠ 1) : stN 1 (C.set c x) N + 1 = stN 1 C N := by
  have := cntN_one (p := fun j => decide (C.getD j 0 % 4 = 1)) (q := fun j => decide ((C.set c x).getD j 0 % 4 = 1)) hc (fun j hj => by show decide _ = decide _; rw [getD_set_ne' x (fun e => hj e.symm)])
  simp only [decide_eq_true_eq, getD_set_eq' x hl] at this
  rw [if_pos h0, if_neg h1] at this
  exact this
end

/-- A count over a list. -/
def cntL {α : Type} (p : α → Bool) (l : List α) : Nat := l.countP p
section
variable {α : Type} {p : α → Bool} {l : List α} {i : Nat} {a b : α}
theorem cntL_snoc : cntL p (l ++ [a]) = cntL p l + if p a = true then 1 else 0 := by
  unfold cntL
  rw [List.countP_append, List.countP_singleton]
theorem cntL_set : ∀ {l : List α} {i : Nat}, l[i]? = some a → cntL p (l.set i b) + (if p a = true then 1 else 0) = cntL p l + (if p b = true then 1 else 0)
  | [], i, h => by simp at h
  | x :: l, 0, h => by
    cases h
    unfold cntL
    rw [List.set_cons_zero, List.countP_cons, List.countP_cons]
    omega
  | x :: l, i + 1, h => by
    have ih := cntL_set (l := l) (i := i) h
    unfold cntL at ih ⊢
    rw [List.set_cons_succ, List.countP_cons, List.countP_cons]
    omega
end
/-- What was put in; what was had; what is asked for and not over. -/
def isPut (d : Dd) : Bool := d.ok && decide (d.kd = 0)
def isHad (d : Dd) : Bool := d.ok && decide (d.kd = 1)
def isPend (d : Dd) : Bool := decide (d.till < 0) && decide (d.kd = 1)
/-- A get under way; one that has taken. -/
def isGe : Option (Wk × Nat) → Bool
  | some (.ge _, _) => true
  | _ => false
def hasTaken (k : Ge) : Bool := match k.ta with
  | some a => decide (a.next = 4) && !a.lost
  | none => false
def isTaken : Option (Wk × Nat) → Bool
  | some (.ge k, _) => hasTaken k
  | _ => false
theorem taken_le (l : List (Option (Wk × Nat))) : cntL isTaken l ≤ cntL isGe l := by
  unfold cntL
  refine List.countP_mono_left (fun x _ hx => ?_)
  match x, hx with
  | some (.ge k, i), _ => rfl
  | some (.pu k, i), hx => cases hx
  | none, hx => cases hx

/-- What is known of a yard's counts. -/
structure COk (B : YB) (N : Nat) (Y : Yd) : Prop where
  st : ∀ j, j < N → Y.C.getD j 0 % 4 ≠ 3
  live : stN 1 Y.C N + cntL isHad Y.ds + cntL isTaken Y.ts = cntL isPut Y.ds
  pend : cntL isPend Y.ds = cntL isGe Y.ts
  kind : ∀ (w : Nat) (T : Wk) (i : Nat) (d : Dd), Y.ts[w]? = some (some (T, i)) → Y.ds[i]? = some d → d.kd = kdI T.take
section
variable {B : YB} {N n : Nat} {Y Y' : Yd}
/-- What the law asks. -/
theorem COk.out (h : COk B N Y) : stN 0 Y.C N + stN 1 Y.C N + stN 2 Y.C N = N ∧ stN 1 Y.C N + cntL isHad Y.ds ≤ cntL isPut Y.ds ∧ cntL isPut Y.ds ≤ stN 1 Y.C N + cntL isHad Y.ds + cntL isPend Y.ds := by
  have h1 := stN_all h.st
  have h2 := h.live
  have h3 := h.pend
  have h4 := taken_le Y.ts
  omega
theorem cntL_none (p : Option (Wk × Nat) → Bool) (hp : p none = false) (T : Nat) : cntL p (List.replicate T none) = 0 := by
  unfold cntL
  rw [List.countP_eq_zero]
  intro a ha
  rw [List.eq_of_mem_replicate ha, hp]
  decide
theorem COk.start (C : List Int) (hC : ∀ j, C.getD j 0 = 0) (T : Nat) : COk B N ⟨C, [], 0, 0, List.replicate T none, []⟩ := by
  refine ⟨fun j _ => by show C.getD j 0 % 4 ≠ 3; rw [hC j]; decide, ?_, ?_, fun w T' i d h => ?_⟩
  · show stN 1 C N + 0 + cntL isTaken (List.replicate T none) = 0
    rw [cntL_none _ rfl]
    unfold stN
    have : ∀ m, cntN (fun j => decide (C.getD j 0 % 4 = 1)) m = 0 := fun m => by
      induction m with
      | zero => rfl
      | succ m ih => rw [cntN, ih, hC m]; rfl
    rw [this]
  · show 0 = cntL isGe (List.replicate T none)
    rw [cntL_none _ rfl]
  · rw [List.getElem?_replicate] at h
    split at h <;> cases h

/-- What a step does to the counts: lv, had, taken, put as they were and as they are. -/
theorem COk.moved (h : COk B N Y) (ho : YOk (plOf B N) B.T n Y) {w : Nat} {T : Wk} {i : Nat} {z : Int} (hw : Y.ts[w]? = some (some (T, i)))
    (hst : ∀ j, j < N → (T.cells (plOf B N w) Y.C Y.now).getD j 0 % 4 ≠ 3)
    (hlv : stN 1 (T.cells (plOf B N w) Y.C Y.now) N + (if isTaken (some (T.step (plOf B N w) Y.C Y.now z, i)) = true ∧ (T.step (plOf B N w) Y.C Y.now z).ph = 0 then 1 else 0) + (if (T.step (plOf B N w) Y.C Y.now z).ph = 1 ∧ T.take = true then 1 else 0) = stN 1 Y.C N + (if isTaken (some (T, i)) = true then 1 else 0) + (if (T.step (plOf B N w) Y.C Y.now z).ph = 1 ∧ T.take = false then 1 else 0)) :
    COk B N (Y.step (plOf B N w) w T i z) := by
  obtain ⟨k1, k2, k3, k4, d, k5, k6, k7, k8, _⟩ := ho.task w T i hw
  have hkd := h.kind w T i d hw k5
  have htake : (T.step (plOf B N w) Y.C Y.now z).take = T.take := by cases T <;> rfl
  have hge : ∀ j : Nat, isGe (some (T.step (plOf B N w) Y.C Y.now z, j)) = isGe (some (T, j)) := fun j => by cases T <;> rfl
  have hgt : isGe (some (T, i)) = T.take := by cases T <;> rfl
  have hlive := h.live
  have hpend := h.pend
  have hwl := hw
  by_cases hp : (T.step (plOf B N w) Y.C Y.now z).ph = 0
  · have e1 : (Y.step (plOf B N w) w T i z).ts = Y.ts.set w (some (T.step (plOf B N w) Y.C Y.now z, i)) := if_pos hp
    have e2 : (Y.step (plOf B N w) w T i z).ds = Y.ds := if_pos hp
    have c1 := cntL_set (p := isTaken) (b := some (T.step (plOf B N w) Y.C Y.now z, i)) hw
    have c2 := cntL_set (p := isGe) (b := some (T.step (plOf B N w) Y.C Y.now z, i)) hw
    rw [hge] at c2
    rw [if_neg (by omega : ¬ ((T.step (plOf B N w) Y.C Y.now z).ph = 1 ∧ T.take = true)), if_neg (by omega : ¬ ((T.step (plOf B N w) Y.C Y.now z).ph = 1 ∧ T.take = false))] at hlv
    simp only [hp, and_true] at hlv
    refine ⟨hst, ?_, ?_, fun v T' j d' hv hd => ?_⟩
    · rw [e1, e2]
      show stN 1 (T.cells (plOf B N w) Y.C Y.now) N + _ + _ = _
      omega
    · rw [e1, e2]
      omega
    · rw [e2] at hd
      rcases astep_ts hv with ⟨rfl, rfl, _⟩ | ⟨_, hq⟩
      · rw [e1, List.getElem?_set_self (List.getElem?_eq_some_iff.1 hw).1] at hv
        cases hv
        rw [htake]
        exact h.kind v T _ d' hw hd
      · exact h.kind v T' j d' hq hd
  · have e1 : (Y.step (plOf B N w) w T i z).ts = Y.ts.set w none := if_neg hp
    have e2 : (Y.step (plOf B N w) w T i z).ds = Y.ds.set i (d.over Y.moves (T.step (plOf B N w) Y.C Y.now z)) := by
      show (if _ then _ else _) = _
      rw [if_neg hp, modify_set k5]
    have c1 := cntL_set (p := isTaken) (b := none) hw
    have c2 := cntL_set (p := isGe) (b := none) hw
    have c3 := cntL_set (p := isPut) (b := d.over Y.moves (T.step (plOf B N w) Y.C Y.now z)) k5
    have c4 := cntL_set (p := isHad) (b := d.over Y.moves (T.step (plOf B N w) Y.C Y.now z)) k5
    have c5 := cntL_set (p := isPend) (b := d.over Y.moves (T.step (plOf B N w) Y.C Y.now z)) k5
    obtain ⟨s1, s2, s3, s4, s5, s6, s7⟩ := Dd.over_same d Y.moves (T.step (plOf B N w) Y.C Y.now z)
    have hok : (d.over Y.moves (T.step (plOf B N w) Y.C Y.now z)).ok = decide ((T.step (plOf B N w) Y.C Y.now z).ph = 1) := by
      unfold Dd.over
      split
      · rename_i hq
        rw [decide_eq_true hq]
      · rename_i hq
        rw [decide_eq_false hq]
        exact k8
    have x1 : isPut d = false := by unfold isPut; rw [k8]; rfl
    have x2 : isHad d = false := by unfold isHad; rw [k8]; rfl
    have x3 : isPend d = T.take := by
      unfold isPend
      rw [k7, hkd]
      cases T.take <;> rfl
    have x4 : isPut (d.over Y.moves (T.step (plOf B N w) Y.C Y.now z)) = (decide ((T.step (plOf B N w) Y.C Y.now z).ph = 1) && !T.take) := by
      unfold isPut
      rw [hok, s2, hkd]
      cases T.take <;> rfl
    have x5 : isHad (d.over Y.moves (T.step (plOf B N w) Y.C Y.now z)) = (decide ((T.step (plOf B N w) Y.C Y.now z).ph = 1) && T.take) := by
      unfold isHad
      rw [hok, s2, hkd]
      cases T.take <;> rfl
    have x6 : isPend (d.over Y.moves (T.step (plOf B N w) Y.C Y.now z)) = false := by
      unfold isPend
      rw [s7, decide_eq_false (by omega), Bool.false_and]
    rw [x1, x4] at c3
    rw [x2, x5] at c4
    rw [x3, x6] at c5
    rw [hgt] at c2
    rw [if_neg (by rintro ⟨_, hq⟩; exact hp hq)] at hlv
    simp only [show isTaken none = false from rfl, show isGe none = false from rfl, Bool.false_eq_true, if_false] at c1 c2 c3 c4 c5
    refine ⟨hst, ?_, ?_, fun v T' j d' hv hd => ?_⟩
    · rw [e1, e2]
      show stN 1 (T.cells (plOf B N w) Y.C Y.now) N + _ + _ = _
      by_cases hp1 : (T.step (plOf B N w) Y.C Y.now z).ph = 1
      · cases ht : T.take <;> simp [ht, hp1] at c3 c4 hlv <;> omega
      · simp [hp1] at c3 c4 hlv
        omega
    · rw [e1, e2]
      cases ht : T.take <;> simp [ht] at c2 c5 <;> omega
    · rw [e2] at hd
      rcases astep_ts hv with ⟨_, _, hq⟩ | ⟨hne, hq⟩
      · exact absurd hq hp
      · rcases yset hd with ⟨rfl, rfl, _⟩ | ⟨_, hd2⟩
        · rw [s2]
          exact h.kind v T' i d hq k5
        · exact h.kind v T' j d' hq hd2
end
section
variable {B : YB} {N n : Nat} {Y Y' : Yd}
theorem after_ph (k : Pu) (r : Int) (h : k.ph = 0) : (k.after r).ph ≠ 1 := by
  unfold Pu.after
  split
  · show k.ph ≠ 1
    omega
  · split
    · show (2 : Int) ≠ 1
      decide
    · omega
theorem st_set {C : List Int} {c : Nat} {x : Int} (h : ∀ j, j < N → C.getD j 0 % 4 ≠ 3) (hl : N ≤ C.length) (hx : c < N → x % 4 ≠ 3) : ∀ j, j < N → (C.set c x).getD j 0 % 4 ≠ 3 := fun j hj => by
  by_cases e : c = j
  · subst e
    rw [getD_set_eq' x (by omega)]
    exact hx hj
  · rw [getD_set_ne' x e]
    exact h j hj
theorem COk.next (h : COk B N Y) (hA : AOk B N Y) (ho : YOk (plOf B N) B.T n Y) (hc : YCf B N) (hT : (B.T : Int) = B.t) (hl : (Y.C.length : Int) = 2 * N + 2 * B.t) (hfit : ∀ j, 0 ≤ Y.C.getD j 0 ∧ Y.C.getD j 0 ≤ 18446744073709551615) (hm : YHow B N Y Y') : COk B N Y' := by
  have hlen : Y.C.length = 2 * N + 2 * B.T := by omega
  cases hm with
  | rest => exact h
  | pass m hm => exact ⟨h.st, h.live, h.pend, h.kind⟩
  | call w take kd e x s hw he hk =>
    have c1 := cntL_set (p := isTaken) (b := some (wkB B N w take e x s, Y.ds.length)) hw
    have c2 := cntL_set (p := isGe) (b := some (wkB B N w take e x s, Y.ds.length)) hw
    have x1 : isTaken (some (wkB B N w take e x s, Y.ds.length)) = false := by cases take <;> rfl
    have x2 : isGe (some (wkB B N w take e x s, Y.ds.length)) = take := by cases take <;> rfl
    have x3 : (wkB B N w take e x s).take = take := by cases take <;> rfl
    rw [x1] at c1
    rw [x2] at c2
    simp only [show isTaken none = false from rfl, show isGe none = false from rfl, Bool.false_eq_true, if_false] at c1 c2
    have h1 := h.live
    have h2 := h.pend
    refine ⟨h.st, ?_, ?_, fun v T i d hv hd => ?_⟩
    · show stN 1 Y.C N + cntL isHad (Y.ds ++ [_]) + cntL isTaken (Y.ts.set w _) = cntL isPut (Y.ds ++ [_])
      rw [cntL_snoc, cntL_snoc, if_neg (by simp [isHad]), if_neg (by simp [isPut])]
      omega
    · show cntL isPend (Y.ds ++ [_]) = cntL isGe (Y.ts.set w _)
      rw [cntL_snoc]
      subst hk
      cases take
      · rw [if_neg (by simp [isPend, kdI])]
        simp at c2
        omega
      · rw [if_pos (by simp [isPend, kdI])]
        simp at c2
        omega
    · rcases acall_ts hv with ⟨rfl, rfl⟩ | ⟨hne, hq⟩
      · rw [x3]
        have hi : i = Y.ds.length := by
          have hv' : (Y.ts.set v (some (wkB B N v take e x s, Y.ds.length)))[v]? = some (some (wkB B N v take e x s, i)) := hv
          rw [List.getElem?_set_self (List.getElem?_eq_some_iff.1 hw).1] at hv'
          cases hv'
          rfl
        rcases ysnoc hd with ⟨_, rfl⟩ | ⟨hlt, _⟩
        · exact hk.symm
        · omega
      · obtain ⟨_, _, _, _, d0, q5, _⟩ := ho.task v T i hq
        rcases ysnoc hd with ⟨hi, _⟩ | ⟨_, hd2⟩
        · have := (List.getElem?_eq_some_iff.1 q5).1
          omega
        · exact h.kind v T i d hq hd2
  | step w T i z hw ha =>
    have hst := h.st
    cases T with
    | pu k =>
      have hP := hA.put w k i hw
      have hF := ho.putF hc hT hl hw
      have hok := hF.ok
      have f1 := hF.who; have f2 := hF.ph; have f5 := hF.lo; have f6 := hF.hi; have f7 := hF.n1
      obtain ⟨m0, _⟩ := hc.own hT hF.wT
      have hnp : ¬ k.ph ≠ 0 := by omega
      have main : ((∀ j, j < N → (k.cells N (2 * N + B.T) Y.C Y.now).getD j 0 % 4 ≠ 3) ∧ stN 1 (k.cells N (2 * N + B.T) Y.C Y.now) N = stN 1 Y.C N + (if (k.step ((w : Int) * B.s) (2 * N + B.T) (2 * N) Y.C Y.now).ph = 1 then 1 else 0)) := by
        rcases hok.at' f2 with ⟨a1, a2, a3⟩ | ⟨a1, a2, a3⟩ | ⟨a1, a2, a3⟩ | ⟨a1, a2, a3⟩
        · have e2 : k.cells N (2 * N + B.T) Y.C Y.now = Y.C := by unfold Pu.cells; rw [if_neg hnp, if_pos a1]
          have e3 : k.step ((w : Int) * B.s) (2 * N + B.T) (2 * N) Y.C Y.now = ({ k with cl := k.cl.step ((w : Int) * B.s) (2 * N) Y.C } : Pu).after (k.cl.step ((w : Int) * B.s) (2 * N) Y.C).ph := by unfold Pu.step; rw [if_neg hnp, if_pos a1]
          rw [e2, e3, if_neg (after_ph { k with cl := k.cl.step ((w : Int) * B.s) (2 * N) Y.C } _ f2)]
          exact ⟨hst, rfl⟩
        · have e2 : k.cells N (2 * N + B.T) Y.C Y.now = (stp (2 * N + B.T) k.tk Y.C Y.now).2.1 := by unfold Pu.cells; rw [if_neg hnp, if_neg (by omega), if_pos a1]
          have e3 : k.step ((w : Int) * B.s) (2 * N + B.T) (2 * N) Y.C Y.now = ({ k with tk := (stp (2 * N + B.T) k.tk Y.C Y.now).1 } : Pu).after (stp (2 * N + B.T) k.tk Y.C Y.now).1.ph := by unfold Pu.step; rw [if_neg hnp, if_neg (by omega), if_pos a1]
          rw [e2, e3, if_neg (after_ph { k with tk := (stp (2 * N + B.T) k.tk Y.C Y.now).1 } _ f2)]
          rcases stp_cell (now := Y.now) hok.tk hP.so' hfit (fun q1 q2 => by
            have htw := hok.tw
            rw [htw] at q2 ⊢
            exact hP.num f2 q1 a3 q2) with hq | ⟨c, x, hq, h1, _⟩
          · rw [hq]
            exact ⟨hst, rfl⟩
          · rw [hq]
            exact ⟨st_set hst (by omega) (fun h => by omega), live_far (by omega)⟩
        · have e2 : k.cells N (2 * N + B.T) Y.C Y.now = Y.C.set (N + k.cl.slot.toNat) k.value := by unfold Pu.cells; rw [if_neg hnp, if_neg (by omega), if_neg (by omega), if_pos a1]
          have e3 : k.step ((w : Int) * B.s) (2 * N + B.T) (2 * N) Y.C Y.now = { k with next := 3 } := by unfold Pu.step; rw [if_neg hnp, if_neg (by omega), if_neg (by omega), if_pos a1]
          rw [e2, e3, if_neg (by show ¬ k.ph = 1; omega)]
          exact ⟨st_set hst (by omega) (fun h => by omega), live_far (by omega)⟩
        · have e2 : k.cells N (2 * N + B.T) Y.C Y.now = Y.C.set k.cl.slot.toNat k.pack := by unfold Pu.cells; rw [if_neg hnp, if_neg (by omega), if_neg (by omega), if_neg (by omega)]
          have e3 : k.step ((w : Int) * B.s) (2 * N + B.T) (2 * N) Y.C Y.now = { k with ph := 1 } := by unfold Pu.step; rw [if_neg hnp, if_neg (by omega), if_neg (by omega), if_neg (by omega)]
          have hpre := hP.word f2 (.inl a2)
          have hg := hok.wg (.inl a2)
          have hst3 := hok.st a3
          have hpp : k.pack % 4 = 1 := (pack_parts hok.e0 hok.e1 hg.1 hg.2 hst3.1 hst3.2.1 hst3.2.2).1
          rw [e2, e3, if_pos rfl]
          exact ⟨st_set hst (by omega) (fun _ => by rw [hpp]; decide), live_up (by omega) (by omega) hpre.1 hpp⟩
      refine h.moved ho hw main.1 ?_
      show stN 1 (k.cells N (2 * N + B.T) Y.C Y.now) N + (if isTaken (some (Wk.pu _, i)) = true ∧ _ then 1 else 0) + (if _ ∧ (Wk.pu k).take = true then 1 else 0) = stN 1 Y.C N + (if isTaken (some (Wk.pu k, i)) = true then 1 else 0) + (if (k.step ((w : Int) * B.s) (2 * N + B.T) (2 * N) Y.C Y.now).ph = 1 ∧ (Wk.pu k).take = false then 1 else 0)
      rw [main.2]
      simp [isTaken, Wk.take]
    | ge k =>
      have hF := ho.getF hw
      have hok := hF.ok
      have f2 := hF.ph
      have hwT := hF.wT
      have hnp : ¬ k.ph ≠ 0 := by omega
      have main : ((∀ j, j < N → (k.cells N (2 * N + w) Y.C).getD j 0 % 4 ≠ 3) ∧ stN 1 (k.cells N (2 * N + w) Y.C) N + (if hasTaken (k.step N (2 * N + w) Y.C z) = true ∧ (k.step N (2 * N + w) Y.C z).ph = 0 then 1 else 0) + (if (k.step N (2 * N + w) Y.C z).ph = 1 then 1 else 0) = stN 1 Y.C N + (if hasTaken k = true then 1 else 0)) := by
        cases hta : k.ta with
        | none =>
          have e2 : k.cells N (2 * N + w) Y.C = Y.C := by unfold Ge.cells; rw [if_neg hnp, hta]
          have e3 : k.step N (2 * N + w) Y.C z = k.read (k.sn.step Y.C) z := by unfold Ge.step; rw [if_neg hnp, hta]
          have t0 : hasTaken k = false := by unfold hasTaken; rw [hta]
          have t1 : hasTaken (k.read (k.sn.step Y.C) z) = false ∧ (k.read (k.sn.step Y.C) z).ph ≠ 1 := by
            unfold Ge.read
            split
            · exact ⟨by unfold hasTaken; show (match k.ta with | some a => _ | none => false) = false; rw [hta], by show k.ph ≠ 1; omega⟩
            · split
              · exact ⟨by unfold hasTaken; show (match k.ta with | some a => _ | none => false) = false; rw [hta], by show (2 : Int) ≠ 1; decide⟩
              · exact ⟨rfl, by show k.ph ≠ 1; omega⟩
          rw [e2, e3, t0, t1.1, if_neg t1.2]
          exact ⟨hst, by simp⟩
        | some a =>
          obtain ⟨b1, b2, b3, b4, b5⟩ := hF.ta a hta
          have hAa := hA.get w k i a hw hta
          have e2 : k.cells N (2 * N + w) Y.C = a.cells a.slot.toNat (2 * N + w) Y.C := by unfold Ge.cells; rw [if_neg hnp, hta]
          have e3 : k.step N (2 * N + w) Y.C z = k.grab N (a.go a.slot.toNat (N + a.slot.toNat) Y.C) := by unfold Ge.step; rw [if_neg hnp, hta]
          have t0 : hasTaken k = (decide (a.next = 4) && !a.lost) := by unfold hasTaken; rw [hta]
          have on : ∀ a' : Ta, a.go a.slot.toNat (N + a.slot.toNat) Y.C = a' → a'.ph = 0 → k.step N (2 * N + w) Y.C z = { k with ta := some a' } := fun a' g hp' => by
            rw [e3, g]
            unfold Ge.grab
            rw [if_neg (by omega), if_neg (by omega)]
          have still : ∀ a' : Ta, a.go a.slot.toNat (N + a.slot.toNat) Y.C = a' → a'.ph = 0 → (decide (a'.next = 4) && !a'.lost) = false → hasTaken k = false → stN 1 (k.cells N (2 * N + w) Y.C) N = stN 1 Y.C N → stN 1 (k.cells N (2 * N + w) Y.C) N + (if hasTaken (k.step N (2 * N + w) Y.C z) = true ∧ (k.step N (2 * N + w) Y.C z).ph = 0 then 1 else 0) + (if (k.step N (2 * N + w) Y.C z).ph = 1 then 1 else 0) = stN 1 Y.C N + (if hasTaken k = true then 1 else 0) := fun a' g hp' h4 h5 h6 => by
            rw [on a' g hp', h5, h6]
            rw [if_neg (by rintro ⟨hq, _⟩; have hq' : (decide (a'.next = 4) && !a'.lost) = true := hq; rw [h4] at hq'; cases hq'), if_neg (by show ¬ k.ph = 1; omega)]
            simp
          rcases b5.st b2 with ⟨hn, hlo⟩ | ⟨hn, hlo⟩ | ⟨hn, hlo⟩ | ⟨hn, hlo⟩ | hn
          · obtain ⟨g1, g2, g3⟩ := go_0 (j := a.slot.toNat) (jv := N + a.slot.toNat) (hz := 2 * N + w) (C := Y.C) b2 hn
            exact ⟨by rw [e2, g2]; exact st_set hst (by omega) (fun h => by omega), still _ g1 b2 rfl (by rw [t0, hn]; rfl) (by rw [e2, g2]; exact live_far (by omega))⟩
          · by_cases hwd : Y.C.getD a.slot.toNat 0 = a.word
            · obtain ⟨g1, g2, g3⟩ := go_1y (jv := N + a.slot.toNat) (hz := 2 * N + w) b2 hn hwd
              exact ⟨by rw [e2, g2]; exact hst, still _ g1 b2 rfl (by rw [t0, hn]; rfl) (by rw [e2, g2])⟩
            · obtain ⟨g1, g2, g3⟩ := go_1n (jv := N + a.slot.toNat) (hz := 2 * N + w) b2 hn hwd
              exact ⟨by rw [e2, g2]; exact hst, still _ g1 b2 rfl (by rw [t0, hn]; rfl) (by rw [e2, g2])⟩
          · obtain ⟨g1, g2, g3⟩ := go_2 (j := a.slot.toNat) (jv := N + a.slot.toNat) (hz := 2 * N + w) (C := Y.C) b2 hn
            exact ⟨by rw [e2, g2]; exact hst, still _ g1 b2 rfl (by rw [t0, hn]; rfl) (by rw [e2, g2])⟩
          · by_cases hwd : Y.C.getD a.slot.toNat 0 = a.word
            · obtain ⟨g1, g2, g3⟩ := go_3y (jv := N + a.slot.toNat) (hz := 2 * N + w) b2 hn hwd
              have hp := (tkW_parts b5.x0).1
              have hdn := live_down (C := Y.C) (N := N) (c := a.slot.toNat) (x := tkW a.word) (by omega) (by omega) (by rw [hwd]; exact hAa.live) (by omega)
              refine ⟨by rw [e2, g2]; exact st_set hst (by omega) (fun _ => by omega), ?_⟩
              rw [on _ g1 b2, t0, hn, e2, g2]
              rw [if_pos ⟨by show (decide ((4 : Int) = 4) && !a.lost) = true; rw [hlo]; rfl, f2⟩, if_neg (by show ¬ k.ph = 1; omega), if_neg (by simp)]
              omega
            · obtain ⟨g1, g2, g3⟩ := go_3n (jv := N + a.slot.toNat) (hz := 2 * N + w) b2 hn hwd
              exact ⟨by rw [e2, g2]; exact hst, still _ g1 b2 rfl (by rw [t0, hn]; rfl) (by rw [e2, g2])⟩
          · by_cases hlo : a.lost = true
            · obtain ⟨g1, g2, g3⟩ := go_4n (j := a.slot.toNat) (jv := N + a.slot.toNat) (hz := 2 * N + w) (C := Y.C) b2 hn hlo
              refine ⟨by rw [e2, g2]; exact st_set hst (by omega) (fun h => by omega), ?_⟩
              have e4 : k.step N (2 * N + w) Y.C z = { k with tries := k.tries + 1, sn := sn0 k.t k.s k.so k.d k.who (IntKind.u64.wrap k.start % N) N, ta := none } := by
                rw [e3, g1]
                unfold Ge.grab
                rw [if_neg (by show ¬ (2 : Int) = 1; decide), if_pos rfl]
              rw [e4, e2, g2, t0, hn, hlo, live_far (by omega)]
              rw [if_neg (by rintro ⟨hq, _⟩; have hq' : false = true := hq; cases hq'), if_neg (by show ¬ k.ph = 1; omega), if_neg (by simp)]
            · have hlo' : a.lost = false := by simpa using hlo
              obtain ⟨g1, g2, g3⟩ := go_4y (j := a.slot.toNat) (jv := N + a.slot.toNat) (hz := 2 * N + w) (C := Y.C) b2 hn hlo'
              refine ⟨by rw [e2, g2]; exact st_set hst (by omega) (fun h => by omega), ?_⟩
              have e4 : k.step N (2 * N + w) Y.C z = { k with ta := some { a with next := 5, ph := 1 }, ph := 1 } := by
                rw [e3, g1]
                unfold Ge.grab
                rw [if_pos rfl]
              rw [e4, e2, g2, t0, hn, hlo', live_far (by omega)]
              rw [if_neg (by rintro ⟨_, hq⟩; exact absurd hq (by show ¬ (1 : Int) = 0; decide)), if_pos rfl, if_pos (by simp)]
      refine h.moved ho hw main.1 ?_
      show stN 1 (k.cells N (2 * N + w) Y.C) N + (if hasTaken (k.step N (2 * N + w) Y.C z) = true ∧ (k.step N (2 * N + w) Y.C z).ph = 0 then 1 else 0) + (if (k.step N (2 * N + w) Y.C z).ph = 1 ∧ (true : Bool) = true then 1 else 0) = stN 1 Y.C N + (if hasTaken k = true then 1 else 0) + (if (k.step N (2 * N + w) Y.C z).ph = 1 ∧ (true : Bool) = false then 1 else 0)
      have hm := main.2
      simp only [and_true, Bool.true_eq_false, and_false, if_false, Nat.add_zero] at hm ⊢
      exact hm
end
end Go.Proofs.YtpfjommkjkbonaaGreat
