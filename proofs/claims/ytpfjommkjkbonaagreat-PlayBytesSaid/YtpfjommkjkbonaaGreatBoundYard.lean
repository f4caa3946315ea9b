/-
  Books on a yard's calls: how many steps of its own each has done, and how often others turned words meanwhile: none ever does more than so many; and in any stretch of steps in which no call ends there are no more than so many. No Go. No condition.
-/
import Derived.Test.YtpfjommkjkbonaaGreatBoundPure
namespace Go.Proofs.YtpfjommkjkbonaaGreat
open Go.RowKit
set_option linter.unusedVariables false

/-- How many steps a call does at most, where others turn words tn times. -/
def Wk.lim (T : Wk) (N put tn : Nat) : Nat := match T with
  | .pu _ => put
  | .ge _ => (tn + 1) * (4 * N + 10)
theorem Wk.lim_step (T : Wk) (P : Pl) (C : List Int) (now z : Int) (N put tn : Nat) : (T.step P C now z).lim N put tn = T.lim N put tn := by
  cases T <;> rfl
theorem Wk.lim_mono (T : Wk) {N put tn tn' : Nat} (h : tn ≤ tn') : T.lim N put tn ≤ T.lim N put tn' := by
  cases T with
  | pu k => exact Nat.le_refl _
  | ge k => exact Nat.mul_le_mul_right _ (by omega)
/-- What is known of a call that has done own steps while others turned words tn times. -/
def OLeft (P : Pl) (T : Wk) (C : List Int) (put own tn : Nat) : Prop := ∃ m, WLeft P T C m ∧ m ≤ T.lim P.N put 0 ∧ own + m ≤ T.lim P.N put tn
section
variable {P : Pl} {T : Wk} {C C' : List Int} {put own tn tn' : Nat} {now z : Int}
theorem OLeft.le (h : OLeft P T C put own tn) : own ≤ T.lim P.N put tn := by
  obtain ⟨m, _, _, h3⟩ := h
  omega
theorem OLeft.new (h : WLeft P T C (T.lim P.N put 0)) : OLeft P T C put 0 0 := ⟨_, h, Nat.le_refl _, by omega⟩
theorem OLeft.again (h : OLeft P T C put own tn) : OLeft P T C put 0 0 := by
  obtain ⟨m, h1, h2, _⟩ := h
  exact ⟨m, h1, h2, by omega⟩
theorem OLeft.more (h : OLeft P T C put own tn) (ht : tn ≤ tn') : OLeft P T C put own tn' := by
  obtain ⟨m, h1, h2, h3⟩ := h
  exact ⟨m, h1, h2, Nat.le_trans h3 (T.lim_mono ht)⟩
theorem OLeft.same (h : OLeft P T C put own tn) (hk : T.Ok P C) (hp : T.ph = 0) (e : WSame P.N C C') : OLeft P T C' put own tn := by
  obtain ⟨m, h1, h2, h3⟩ := h
  exact ⟨m, h1.same hk hp e, h2, h3⟩
theorem OLeft.turn (h : OLeft P T C put own tn) (C' : List Int) (hk : T.Ok P C) (hp : T.ph = 0) : OLeft P T C' put own (tn + 1) := by
  obtain ⟨m, h1, h2, h3⟩ := h
  cases T with
  | pu k => exact ⟨m, h1, h2, h3⟩
  | ge k =>
    have h3' : own + m ≤ (tn + 1) * (4 * P.N + 10) := h3
    refine ⟨4 * P.N + 10, GLeft.turn h1 C' hk.1 hp, ?_, ?_⟩
    · show 4 * P.N + 10 ≤ (0 + 1) * (4 * P.N + 10)
      omega
    · show own + (4 * P.N + 10) ≤ (tn + 1 + 1) * (4 * P.N + 10)
      rw [Nat.add_mul (tn + 1) 1, Nat.one_mul]
      omega
theorem OLeft.step (h : OLeft P T C put own tn) (hk : T.Ok P C) (hp : T.ph = 0) (ha : T.ask C z) (n0 : 0 ≤ now) (hf : ∀ j, 0 ≤ C.getD j 0) : own + 1 ≤ T.lim P.N put tn ∧ ((T.step P C now z).ph ≠ 0 ∨ OLeft P (T.step P C now z) (T.cells P C now) put (own + 1) tn) := by
  obtain ⟨m, h1, h2, h3⟩ := h
  obtain ⟨g1, g2⟩ := h1.step hk hp ha n0 hf (now := now)
  refine ⟨by omega, g2.imp id (fun g => ⟨m - 1, g, ?_, ?_⟩)⟩
  · rw [T.lim_step]
    omega
  · rw [T.lim_step]
    omega
end

/-- The sum over the first n. -/
def tot (f : Nat → Nat) : Nat → Nat
  | 0 => 0
  | n + 1 => tot f n + f n
def updN (f : Nat → Nat) (k v : Nat) : Nat → Nat := fun j => if j = k then v else f j
theorem updN_same (f : Nat → Nat) (k v : Nat) : updN f k v k = v := if_pos rfl
theorem updN_other {f : Nat → Nat} {k v j : Nat} (h : j ≠ k) : updN f k v j = f j := if_neg h
/-- One more for all but w. -/
def othN (f : Nat → Nat) (w d : Nat) : Nat → Nat := fun k => if k = w then f w else f k + d
theorem othN_same (f : Nat → Nat) (w d : Nat) : othN f w d w = f w := if_pos rfl
theorem othN_other {f : Nat → Nat} {w d k : Nat} (h : k ≠ w) : othN f w d k = f k + d := if_neg h
theorem tot_upd (f : Nat → Nat) (k : Nat) : ∀ n, tot (updN f k (f k + 1)) n = tot f n + if k < n then 1 else 0
  | 0 => rfl
  | n + 1 => by
    have ih := tot_upd f k n
    rw [tot, tot, ih]
    by_cases e : n = k
    · subst e
      rw [updN_same, if_neg (Nat.lt_irrefl _), if_pos (Nat.lt_succ_self _)]
      omega
    · rw [updN_other e]
      by_cases h : k < n
      · rw [if_pos h, if_pos (by omega)]
        omega
      · rw [if_neg h, if_neg (by omega)]
        omega
theorem tot_le {f : Nat → Nat} {b : Nat} : ∀ {n : Nat}, (∀ k, k < n → f k ≤ b) → tot f n ≤ n * b
  | 0, _ => by simp [tot]
  | n + 1, h => by
    have ih := tot_le (n := n) (fun k hk => h k (by omega))
    have := h n (by omega)
    rw [tot, Nat.add_mul, Nat.one_mul]
    omega
theorem tot_zero {f : Nat → Nat} {n : Nat} (h : ∀ k, f k = 0) : tot f n = 0 := by
  induction n with
  | zero => rfl
  | succ n ih => rw [tot, ih, h n]
theorem tot_ge {f : Nat → Nat} {k : Nat} : ∀ {n : Nat}, k < n → f k ≤ tot f n
  | 0, h => absurd h (Nat.not_lt_zero _)
  | n + 1, h => by
    rw [tot]
    by_cases e : k = n
    · subst e
      omega
    · have := tot_ge (f := f) (n := n) (k := k) (by omega)
      omega
/-- All but one, where each is 1 at most. -/
theorem tot_but {f : Nat → Nat} {k : Nat} (h1 : ∀ j, f j ≤ 1) : ∀ {n : Nat}, k < n → tot f n - f k + 1 ≤ n
  | 0, h => absurd h (Nat.not_lt_zero _)
  | n + 1, h => by
    have hn := h1 n
    rw [tot]
    by_cases e : k = n
    · subst e
      have := tot_le (f := f) (b := 1) (n := k) (fun j _ => h1 j)
      omega
    · have ih := tot_but h1 (n := n) (k := k) (by omega)
      have hg := tot_ge (f := f) (n := n) (k := k) (by omega)
      omega

section
variable {pl : Nat → Pl} {t n N put : Nat} {Y : Yd} {own tn : Nat → Nat}
/-- What is known of all calls under way. -/
def Books (pl : Nat → Pl) (put : Nat) (Y : Yd) (own tn : Nat → Nat) : Prop := ∀ (k : Nat) (T : Wk) (i : Nat), Y.ts[k]? = some (some (T, i)) → OLeft (pl k) T Y.C put (own k) (tn k)
theorem Books.none (h : ∀ (k : Nat) (a : Wk × Nat), Y.ts[k]? ≠ some (some a)) : Books pl put Y own tn := fun k T i hk => absurd hk (h k _)
theorem Books.call (h : Books pl put Y own tn) {w : Nat} {kd e x s : Int} {T : Wk} (hw : Y.ts[w]? = some .none) (hT : OLeft (pl w) T Y.C put 0 0) : Books pl put (Y.call w kd e x s T) (updN own w 0) (updN tn w 0) := fun k T' i hk => by
  have hk' : (Y.ts.set w (some (T, Y.ds.length)))[k]? = some (some (T', i)) := hk
  rw [List.getElem?_set] at hk'
  split at hk'
  · rename_i e1
    subst e1
    rw [updN_same, updN_same]
    split at hk'
    · cases hk'
      exact hT
    · cases hk'
  · rename_i e1
    rw [updN_other (fun e2 => e1 e2.symm), updN_other (fun e2 => e1 e2.symm)]
    exact h k T' i hk'
theorem bstep_ts {P : Pl} {w : Nat} {T : Wk} {i : Nat} {z : Int} {k : Nat} {T' : Wk} {i' : Nat} (h : (Y.step P w T i z).ts[k]? = some (some (T', i'))) : (k = w ∧ T' = T.step P Y.C Y.now z ∧ (T.step P Y.C Y.now z).ph = 0) ∨ (k ≠ w ∧ Y.ts[k]? = some (some (T', i'))) := by
  have h' : (if (T.step P Y.C Y.now z).ph = 0 then Y.ts.set w (some (T.step P Y.C Y.now z, i)) else Y.ts.set w Option.none)[k]? = some (some (T', i')) := h
  split at h'
  · rename_i hp
    rw [List.getElem?_set] at h'
    split at h'
    · rename_i e1
      split at h'
      · cases h'
        exact .inl ⟨e1.symm, rfl, hp⟩
      · cases h'
    · rename_i e1
      exact .inr ⟨fun e2 => e1 e2.symm, h'⟩
  · rw [List.getElem?_set] at h'
    split at h'
    · split at h'
      · cases h'
      · cases h'
    · rename_i e1
      exact .inr ⟨fun e2 => e1 e2.symm, h'⟩
/-- A step of w: it has done one more; of the others words were turned dl times more, if it turned one. -/
theorem Books.step (h : Books pl put Y own tn) (ho : YOk pl t n Y) (hN : ∀ k, (pl k).N = N) {w : Nat} {T : Wk} {i : Nat} {z : Int} (hw : Y.ts[w]? = some (some (T, i))) (ha : T.ask Y.C z) (hf : ∀ j, 0 ≤ Y.C.getD j 0) {dl : Nat} (hd : WSame N Y.C (T.cells (pl w) Y.C Y.now) ∨ 1 ≤ dl) :
    own w + 1 ≤ T.lim N put (tn w) ∧ Books pl put (Y.step (pl w) w T i z) (updN own w (own w + 1)) (othN tn w dl) := by
  obtain ⟨k1, k2, k3, k4, _⟩ := ho.task w T i hw
  obtain ⟨g1, g2⟩ := (h w T i hw).step k1 k4 ha ho.now0 hf (now := Y.now)
  rw [hN w] at g1
  refine ⟨g1, fun k T' i' hk => ?_⟩
  rcases bstep_ts hk with ⟨rfl, rfl, hp⟩ | ⟨hne, hk⟩
  · rw [updN_same, othN_same]
    exact g2.resolve_left (fun hh => hh hp)
  · rw [updN_other hne, othN_other hne]
    obtain ⟨q1, q2, q3, q4, _⟩ := ho.task k T' i' hk
    have hb := h k T' i' hk
    rcases hd with hd | hd
    · exact (hb.same q1 q4 (by rw [hN k]; exact hd)).more (by omega)
    · exact (hb.turn _ q1 q4).more (by omega)
theorem Books.pass (h : Books pl put Y own tn) (m : Int) : Books pl put (Y.pass m) own tn := h

/-- A stretch of steps in which no call ends: s: how many each did; tu: whether it turned a word (then just its last step is left). -/
structure Stretch (pl : Nat → Pl) (t put : Nat) (Y : Yd) (s tu : Nat → Nat) : Prop where
  books : Books pl put Y s (fun k => tot tu t - tu k)
  one : ∀ k, tu k ≤ 1
  last : ∀ (k : Nat) (T : Wk) (i : Nat), Y.ts[k]? = some (some (T, i)) → tu k = 1 → T.last
  idle : ∀ k, (∀ a, Y.ts[k]? ≠ some (some a)) → s k = 0 ∧ tu k = 0
theorem Stretch.none (h : ∀ (k : Nat) (a : Wk × Nat), Y.ts[k]? ≠ some (some a)) : Stretch pl t put Y (fun _ => 0) (fun _ => 0) :=
  ⟨Books.none h, fun _ => Nat.zero_le _, fun k T i hk => absurd hk (h k _), fun _ _ => ⟨rfl, rfl⟩⟩
/-- It is no longer than so many steps. -/
theorem Stretch.short (h : Stretch pl t put Y (own) tn) (ho : YOk pl t n Y) (hN : ∀ k, (pl k).N = N) (ht : 1 ≤ t) {b : Nat} (h1 : put ≤ b) (h2 : t * (4 * N + 10) ≤ b) : tot own t ≤ t * b := by
  refine tot_le (fun k hk => ?_)
  have hlt : k < Y.ts.length := by rw [ho.len]; exact hk
  cases hq : Y.ts[k]? with
  | none =>
    have := List.getElem?_eq_none_iff.1 hq
    omega
  | some a =>
    cases a with
    | none =>
      rw [(h.idle k (fun a ha => by rw [hq] at ha; cases ha)).1]
      exact Nat.zero_le _
    | some a =>
      have hb := (h.books k a.1 a.2 hq).le
      refine Nat.le_trans hb ?_
      rw [hN k]
      have h3 := tot_but (f := tn) h.one hk
      cases ha : a.1 with
      | pu q => exact h1
      | ge q =>
        show (tot tn t - tn k + 1) * (4 * N + 10) ≤ b
        exact Nat.le_trans (Nat.mul_le_mul_right _ h3) h2
theorem Stretch.call (h : Stretch pl t put Y own tn) {w : Nat} {kd e x s : Int} {T : Wk} (hw : Y.ts[w]? = some .none) (hT : OLeft (pl w) T Y.C put 0 0) : Stretch pl t put (Y.call w kd e x s T) own tn := by
  obtain ⟨i1, i2⟩ := h.idle w (fun a ha => by rw [hw] at ha; cases ha)
  have hset : ∀ k, (Y.call w kd e x s T).ts[k]? = if w = k then (if w < Y.ts.length then some (some (T, Y.ds.length)) else .none) else Y.ts[k]? := fun k => by
    show (Y.ts.set w (some (T, Y.ds.length)))[k]? = _
    rw [List.getElem?_set]
  refine ⟨fun k T' i hk => ?_, h.one, fun k T' i hk hu => ?_, fun k hk => ?_⟩
  · rw [hset] at hk
    split at hk
    · rename_i e1
      subst e1
      split at hk
      · cases hk
        rw [i1]
        exact hT.more (Nat.zero_le _)
      · cases hk
    · exact h.books k T' i hk
  · rw [hset] at hk
    split at hk
    · rename_i e1
      subst e1
      omega
    · exact h.last k T' i hk hu
  · by_cases e1 : w = k
    · subst e1
      exact ⟨i1, i2⟩
    · exact h.idle k (fun a ha => hk a (by rw [hset, if_neg e1]; exact ha))
/-- A step that ends no call. -/
theorem Stretch.step (h : Stretch pl t put Y own tn) (ho : YOk pl t n Y) (hN : ∀ k, (pl k).N = N) {w : Nat} {T : Wk} {i : Nat} {z : Int} (hw : Y.ts[w]? = some (some (T, i))) (ha : T.ask Y.C z) (hf : ∀ j, 0 ≤ Y.C.getD j 0) (hp : (T.step (pl w) Y.C Y.now z).ph = 0) :
    ∃ tn', Stretch pl t put (Y.step (pl w) w T i z) (updN own w (own w + 1)) tn' ∧ tot (updN own w (own w + 1)) t = tot own t + 1 := by
  have hwt : w < t := by rw [← ho.len]; exact (List.getElem?_eq_some_iff.1 hw).1
  obtain ⟨k1, k2, k3, k4, _⟩ := ho.task w T i hw
  have hu0 : tn w = 0 := by
    have := h.one w
    by_cases e : tn w = 1
    · have h1 := Wk.last_over (P := pl w) (C := Y.C) (now := Y.now) (z := z) k1 (h.last w T i hw e)
      omega
    · omega
  have htot : tot (updN own w (own w + 1)) t = tot own t + 1 := by rw [tot_upd, if_pos hwt]
  have hidle : ∀ k, (∀ a, (Y.step (pl w) w T i z).ts[k]? ≠ some (some a)) → k ≠ w ∧ ∀ a, Y.ts[k]? ≠ some (some a) := fun k hk => by
    have e1 : (Y.step (pl w) w T i z).ts = Y.ts.set w (some (T.step (pl w) Y.C Y.now z, i)) := if_pos hp
    have hne : k ≠ w := fun e => by
      subst e
      refine hk (T.step (pl k) Y.C Y.now z, i) ?_
      rw [e1, List.getElem?_set_self (List.getElem?_eq_some_iff.1 hw).1]
    refine ⟨hne, fun a ha => hk a ?_⟩
    rw [e1, List.getElem?_set_ne (fun e => hne e.symm)]
    exact ha
  rcases Wk.words (now := Y.now) (z := z) k1 k4 with hs | ⟨_, hl⟩
  · rw [hN w] at hs
    obtain ⟨g1, g2⟩ := h.books.step ho hN hw ha hf (dl := 0) (.inl hs)
    refine ⟨tn, ⟨fun k T' i' hk => ?_, h.one, fun k T' i' hk hu => ?_, fun k hk => ?_⟩, htot⟩
    · have h9 := g2 k T' i' hk
      by_cases e : k = w
      · subst e
        rw [othN_same] at h9
        exact h9
      · rw [othN_other e] at h9
        exact h9
    · rcases bstep_ts hk with ⟨rfl, _⟩ | ⟨hne, hk⟩
      · omega
      · exact h.last k T' i' hk hu
    · obtain ⟨hne, hk'⟩ := hidle k hk
      rw [updN_other hne]
      exact h.idle k hk'
  · have hlast : (T.step (pl w) Y.C Y.now z).last := by
      rcases hl with hl | hl
      · omega
      · exact hl
    obtain ⟨g1, g2⟩ := h.books.step ho hN hw ha hf (dl := 1) (.inr (Nat.le_refl _))
    have htu : tot (updN tn w 1) t = tot tn t + 1 := by
      have := tot_upd tn w t
      rw [hu0, if_pos hwt] at this
      exact this
    refine ⟨updN tn w 1, ⟨fun k T' i' hk => ?_, fun k => ?_, fun k T' i' hk hu => ?_, fun k hk => ?_⟩, htot⟩
    · have h9 := g2 k T' i' hk
      show OLeft (pl k) T' (Y.step (pl w) w T i z).C put _ (tot (updN tn w 1) t - updN tn w 1 k)
      by_cases e : k = w
      · subst e
        rw [othN_same, hu0] at h9
        show OLeft _ _ _ put (updN own k (own k + 1) k) (tot (updN tn k 1) t - updN tn k 1 k)
        rw [updN_same tn, htu]
        exact h9.more (by omega)
      · rw [othN_other e] at h9
        rw [htu, updN_other (f := tn) e]
        have hkt : k < t := by
          rcases bstep_ts hk with ⟨e2, _⟩ | ⟨_, hk2⟩
          · exact absurd e2 e
          · rw [← ho.len]
            exact (List.getElem?_eq_some_iff.1 hk2).1
        have hg := tot_ge (f := tn) hkt
        have hle : (tot tn t - tn k) + 1 ≤ tot tn t + 1 - tn k := by omega
        exact OLeft.more h9 hle
    · by_cases e : k = w
      · subst e
        rw [updN_same]
        exact Nat.le_refl _
      · rw [updN_other e]
        exact h.one k
    · rcases bstep_ts hk with ⟨rfl, rfl, _⟩ | ⟨hne, hk⟩
      · exact hlast
      · rw [updN_other hne] at hu
        exact h.last k T' i' hk hu
    · obtain ⟨hne, hk'⟩ := hidle k hk
      rw [updN_other hne, updN_other hne]
      exact h.idle k hk'
/-- A step that ends a call: a new stretch begins. -/
theorem Stretch.ended (h : Stretch pl t put Y own tn) (ho : YOk pl t n Y) (hN : ∀ k, (pl k).N = N) {w : Nat} {T : Wk} {i : Nat} {z : Int} (hw : Y.ts[w]? = some (some (T, i))) (ha : T.ask Y.C z) (hf : ∀ j, 0 ≤ Y.C.getD j 0) :
    Stretch pl t put (Y.step (pl w) w T i z) (fun _ => 0) (fun _ => 0) := by
  obtain ⟨g1, g2⟩ := h.books.step ho hN hw ha hf (dl := 1) (.inr (Nat.le_refl _))
  exact ⟨fun k T' i' hk => (g2 k T' i' hk).again.more (Nat.zero_le _), fun _ => Nat.zero_le _, fun k T' i' _ hu => absurd hu (by decide), fun _ _ => ⟨rfl, rfl⟩⟩
end

/-- A call that is begun. -/
theorem OLeft.begun {t s so d who e x start m : Int} {N nb h0 hw put : Nat} {C : List Int} (take : Bool) (hl : Lay t s N) (hput : s * (t + 1) + most t so d + 2 = (put : Int)) : OLeft ⟨N, m, nb, h0, hw⟩ (wk0 t s so d who take e x start m N) C put 0 0 := by
  refine OLeft.new ?_
  cases take with
  | true =>
    show GLeft N (ge0 t s so d who e start N) C ((0 + 1) * (4 * N + 10))
    rw [Nat.zero_add, Nat.one_mul]
    exact GLeft.start hl
  | false =>
    show (pu0 t s so d who e x m).rem m ≤ (put : Int)
    rw [pu0_rem]
    omega
end Go.Proofs.YtpfjommkjkbonaaGreat
