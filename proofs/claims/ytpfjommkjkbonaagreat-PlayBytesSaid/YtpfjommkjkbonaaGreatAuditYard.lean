/-
  All that a yard notes may be: what is known of its tasks, whatever is done in whatever order. No Go. No condition.
-/
import Derived.Test.YtpfjommkjkbonaaGreatAuditPure
import Derived.Test.YtpfjommkjkbonaaGreatYardDo
namespace Go.Proofs.YtpfjommkjkbonaaGreat
open Go.RowKit
set_option linter.unusedVariables false

section
variable {so : Int} {N nb : Nat} {C C' : List Int} {L L' : List Ev} {k : Pu} {a : Ta}
theorem PA.mono (h : PA so nb C k) (h1 : k.ph = 0 → (k.cl.ph = 1 ∨ 1 ≤ k.cl.steps) → C'.getD k.cl.slot.toNat 0 = C.getD k.cl.slot.toNat 0) (h2 : so = 1 → C'.getD (nb + k.who.toNat) 0 = C.getD (nb + k.who.toNat) 0) : PA so nb C' k :=
  ⟨h.so', fun p q => by rw [h1 p q]; exact h.word p q, fun p q r s => by rw [h2 q]; exact h.num p q r s⟩
theorem TA.mono (h : TA N C L a) (h1 : C'.getD (2 * N + a.who.toNat) 0 = C.getD (2 * N + a.who.toNat) 0) (h2 : a.next = 2 → (C.getD a.slot.toNat 0 = a.word ∨ C.getD a.slot.toNat 0 = tkW a.word) → (C'.getD a.slot.toNat 0 = a.word ∨ C'.getD a.slot.toNat 0 = tkW a.word)) (h3 : loadE L' a.who a.slot = loadE L a.who a.slot) : TA N C' L' a :=
  ⟨h.live, fun hn => by rw [h1]; exact h.hz hn, fun hn => ⟨h2 hn (h.word hn).1, by rw [h3]; exact (h.word hn).2⟩⟩
end

/-- What is known of a yard. -/
structure AOk (B : YB) (N : Nat) (Y : Yd) : Prop where
  cells : ∀ j : Nat, j < Y.C.length → lastE Y.L (j : Int) = Y.C.getD j 0
  all : AllMay B.t B.s B.so N Y.L
  put : ∀ (w : Nat) (k : Pu) (i : Nat), Y.ts[w]? = some (some (.pu k, i)) → PA B.so (2 * N + B.T) Y.C k
  get : ∀ (w : Nat) (k : Ge) (i : Nat) (a : Ta), Y.ts[w]? = some (some (.ge k, i)) → k.ta = some a → TA N Y.C Y.L a
  cross : ∀ (w : Nat) (k : Ge) (i : Nat) (a : Ta), Y.ts[w]? = some (some (.ge k, i)) → k.ta = some a → a.next = 2 → ∀ (v : Nat) (p : Pu) (j : Nat), Y.ts[v]? = some (some (.pu p, j)) → p.cl.slot = a.slot → ¬ p.past a.who
/-- What is known of each task of a yard, in the numbers of its layout. -/
structure PFacts (B : YB) (N : Nat) (C : List Int) (w : Nat) (k : Pu) : Prop where
  ok : k.Ok N ((w : Int) * B.s) (2 * N + B.T) (2 * N) C
  who : k.who = w
  ph : k.ph = 0
  t : k.t = B.t
  s : k.s = B.s
  lo : (w : Int) * B.s ≤ k.cl.slot
  hi : k.cl.slot < (w : Int) * B.s + B.s
  n1 : (w : Int) * B.s + B.s ≤ N
  wT : w < B.T
structure GFacts (B : YB) (N : Nat) (C : List Int) (w : Nat) (k : Ge) : Prop where
  ok : k.Ok N (2 * N + w) C
  who : k.who = w
  ph : k.ph = 0
  wT : w < B.T
  sw : k.sn.who = w
  ta : ∀ a, k.ta = some a → a.who = w ∧ a.ph = 0 ∧ 0 ≤ a.slot ∧ a.slot < N ∧ a.Ok N a.slot.toNat (N + a.slot.toNat) (2 * N + w) C

section
variable {B : YB} {N n : Nat} {Y Y' : Yd} {w : Nat}
theorem AOk.start (C : List Int) (hC : ∀ j, C.getD j 0 = 0) (T : Nat) : AOk B N ⟨C, [], 0, 0, List.replicate T none, []⟩ := by
  have hn : ∀ (w : Nat) (x : Wk × Nat), (List.replicate T (none : Option (Wk × Nat)))[w]? ≠ some (some x) := fun w x h => by
    rw [List.getElem?_replicate] at h
    split at h <;> cases h
  exact ⟨fun j _ => (hC j).symm, AllMay.nil _ _ _ _, fun w k i h => absurd h (hn w _), fun w k i a h => absurd h (hn w _), fun w k i a h => absurd h (hn w _)⟩

theorem lay_s {t s s' : Int} {n : Int} (h : Lay t s n) (h' : Lay t s' n) : s = s' := by
  have e1 := h.eq
  have e2 := h'.eq
  have t1 := h.t1
  have : t * (s - s') = 0 := by rw [Int.mul_sub]; omega
  rcases Int.mul_eq_zero.1 this with h0 | h0 <;> omega
theorem YOk.putF (ho : YOk (plOf B N) B.T n Y) (hc : YCf B N) (hT : (B.T : Int) = B.t) (hl : (Y.C.length : Int) = 2 * N + 2 * B.t) {k : Pu} {i : Nat} (hw : Y.ts[w]? = some (some (.pu k, i))) : PFacts B N Y.C w k := by
  obtain ⟨h1, _, h3, h4, _⟩ := ho.task w _ i hw
  have h1' : k.Ok N ((w : Int) * B.s) (2 * N + B.T) (2 * N) Y.C := h1
  have h3' : k.who = w := h3
  have hwT : w < B.T := by rw [← ho.len]; exact (List.getElem?_eq_some_iff.1 hw).1
  have hct : k.cl.t = B.t := by have := h1'.cl.len; omega
  have hlay := h1'.cl.lay
  rw [hct] at hlay
  have hs : k.cl.s = B.s := lay_s hlay hc.lay
  obtain ⟨m0, m1⟩ := hc.own hT hwT
  exact ⟨h1', h3', h4, by rw [← h1'.ct]; exact hct, by rw [← h1'.cs]; exact hs, h1'.cl.s0, by have h5 := h1'.cl.s1; rw [hs] at h5; exact h5, m1, hwT⟩
theorem YOk.getF (ho : YOk (plOf B N) B.T n Y) {k : Ge} {i : Nat} (hw : Y.ts[w]? = some (some (.ge k, i))) : GFacts B N Y.C w k := by
  obtain ⟨h1, _, h3, h4, _⟩ := ho.task w _ i hw
  have h1' : k.Ok N (2 * N + w) Y.C := h1.1
  obtain ⟨w1, w2, w3⟩ : k.who = w ∧ k.sn.who = w ∧ ∀ a, k.ta = some a → a.who = w := h3
  have hwT : w < B.T := by rw [← ho.len]; exact (List.getElem?_eq_some_iff.1 hw).1
  refine ⟨h1', w1, h4, hwT, w2, fun a ha => ?_⟩
  obtain ⟨o1, o2⟩ := h1'.ta h4 a ha
  exact ⟨w3 a ha, o2, o1.s0, o1.s1, o1⟩

/-- What a step of w turns, as the others see it. -/
inductive Eff (B : YB) (N : Nat) (Y : Yd) (w : Nat) : List Int → Prop
  | same : Eff B N Y w Y.C
  | value (c : Nat) (x : Int) (h1 : N ≤ c) (h2 : c < 2 * N) : Eff B N Y w (Y.C.set c x)
  | hazard (x : Int) : Eff B N Y w (Y.C.set (2 * N + w) x)
  | number (c : Nat) (x : Int) (h1 : 2 * N + B.T ≤ c) (h2 : B.so = 1 → c = 2 * N + B.T + w) : Eff B N Y w (Y.C.set c x)
  | word (k : Pu) (i : Nat) (hw : Y.ts[w]? = some (some (.pu k, i))) (h1 : k.cl.ph = 1) (x : Int) : Eff B N Y w (Y.C.set k.cl.slot.toNat x)
  | taken (c : Nat) (hc : c < N) (hl : Y.C.getD c 0 % 4 = 1) : Eff B N Y w (Y.C.set c (tkW (Y.C.getD c 0)))

section
variable (h : AOk B N Y) (ho : YOk (plOf B N) B.T n Y) (hc : YCf B N) (hT : (B.T : Int) = B.t) (hl : (Y.C.length : Int) = 2 * N + 2 * B.t) (hwT : w < B.T)
include h ho hc hT hl hwT
/-- Other puts stay as they are known. -/
theorem Eff.puts {C' : List Int} (e : Eff B N Y w C') {v : Nat} (hv : v ≠ w) {p : Pu} {j : Nat} (hp : Y.ts[v]? = some (some (.pu p, j))) : PA B.so (2 * N + B.T) C' p := by
  have hP := h.put v p j hp
  have hF := ho.putF hc hT hl hp
  have b1 := hF.lo
  have b2 := hF.hi
  have b3 := hF.n1
  have b4 := hF.who
  have b5 := hF.wT
  obtain ⟨m0, _⟩ := hc.own hT hF.wT
  cases e with
  | same => exact hP
  | value c x h1 h2 => exact hP.mono (fun _ _ => getD_set_ne' x (by omega)) (fun _ => getD_set_ne' x (by omega))
  | hazard x =>
    exact hP.mono (fun _ _ => getD_set_ne' x (by omega)) (fun _ => getD_set_ne' x (by omega))
  | number c x h1 h2 => exact hP.mono (fun _ _ => getD_set_ne' x (by omega)) (fun hs => getD_set_ne' x (by have := h2 hs; omega))
  | word k i hw h1 x =>
    have hG := ho.putF hc hT hl hw
    have g1 := hG.lo
    have g2 := hG.hi
    have g3 := hG.n1
    obtain ⟨m1, _⟩ := hc.own hT hG.wT
    have s1 := hc.lay.s1
    have hne : k.cl.slot ≠ p.cl.slot := fun he => by
      rcases (by omega : v < w ∨ w < v) with hvw | hvw
      · have h5 : ((v : Int) + 1) * B.s ≤ (w : Int) * B.s := Int.mul_le_mul_of_nonneg_right (by omega) (by omega)
        rw [Int.add_mul, Int.one_mul] at h5
        omega
      · have h5 : ((w : Int) + 1) * B.s ≤ (v : Int) * B.s := Int.mul_le_mul_of_nonneg_right (by omega) (by omega)
        rw [Int.add_mul, Int.one_mul] at h5
        omega
    exact hP.mono (fun _ _ => getD_set_ne' x (by omega)) (fun _ => getD_set_ne' x (by omega))
  | taken c h1 h2 =>
    refine hP.mono (fun q1 q2 => ?_) (fun _ => getD_set_ne' _ (by omega))
    by_cases he : c = p.cl.slot.toNat
    · have := (hP.word q1 q2).1
      rw [← he] at this
      exact absurd h2 this
    · exact getD_set_ne' _ he
/-- .. and other gets. -/
theorem Eff.gets (hfit : ∀ j, 0 ≤ Y.C.getD j 0) {C' : List Int} (e : Eff B N Y w C') {E : List Ev} (hE : ∀ x ∈ E, x.who = w) {v : Nat} (hv : v ≠ w) {k : Ge} {j : Nat} {a : Ta} (hk : Y.ts[v]? = some (some (.ge k, j))) (ha : k.ta = some a) (hEl : E.length ≤ 1) : TA N C' (Y.L ++ E) a := by
  have hA := h.get v k j a hk ha
  have hF := ho.getF hk
  obtain ⟨b1, b2, b3, b4, b5⟩ := hF.ta a ha
  have b6 := hF.wT
  have hload : loadE (Y.L ++ E) a.who a.slot = loadE Y.L a.who a.slot := by
    match E, hE, hEl with
    | [], _, _ => rw [List.append_nil]
    | [x], hE, _ =>
      rw [loadE_snoc, if_neg]
      intro hx
      have := hE x (List.mem_singleton.2 rfl)
      omega
    | x :: y :: l, _, hEl => simp at hEl
  cases e with
  | same => exact hA.mono rfl (fun _ h => h) hload
  | value c x h1 h2 => exact hA.mono (getD_set_ne' x (by omega)) (fun _ hq => by rw [getD_set_ne' x (by omega)]; exact hq) hload
  | hazard x => exact hA.mono (getD_set_ne' x (by omega)) (fun _ hq => by rw [getD_set_ne' x (by omega)]; exact hq) hload
  | number c x h1 h2 => exact hA.mono (getD_set_ne' x (by omega)) (fun _ hq => by rw [getD_set_ne' x (by omega)]; exact hq) hload
  | word p i hw h1 x =>
    have hG := ho.putF hc hT hl hw
    have g1 := hG.lo
    have g3 := hG.n1
    have g4 := hG.hi
    obtain ⟨m1, _⟩ := hc.own hT hG.wT
    refine hA.mono (getD_set_ne' x (by omega)) (fun hn hq => ?_) hload
    by_cases he : p.cl.slot.toNat = a.slot.toNat
    · exact absurd ⟨hG.ph, .inl h1⟩ (h.cross v k j a hk ha hn w p i hw (by omega))
    · rw [getD_set_ne' x he]
      exact hq
  | taken c h1 h2 =>
    refine hA.mono (getD_set_ne' _ (by omega)) (fun hn hq => ?_) hload
    by_cases he : c = a.slot.toNat
    · subst he
      have x0 := b5.x0
      rcases hq with hq | hq
      · right
        rw [getD_set_eq' _ (by omega), hq]
      · rw [hq] at h2
        have := (tkW_parts x0).1
        omega
    · rw [getD_set_ne' _ he]
      exact hq
end
end
/-- An event of w on a yard's cells. -/
structure EvAt (B : YB) (N : Nat) (Y : Yd) (w : Nat) (e : Ev) : Prop where
  who : e.who = w
  wT : w < B.T
  c0 : 0 ≤ e.cell
  c1 : e.cell < 2 * N + 2 * B.t
  old : e.old = Y.C.getD e.cell.toNat 0
section
variable {B : YB} {N n : Nat} {Y Y' : Yd} {w : Nat} {e : Ev}
theorem own_who {x s : Int} {w : Nat} (hs : 1 ≤ s) (h0 : (w : Int) * s ≤ x) (h1 : x < (w : Int) * s + s) : (w : Int) = x / s := by
  have e1 := Int.mul_ediv_add_emod x s
  have e2 := Int.emod_nonneg x (show s ≠ 0 by omega)
  have e3 := Int.emod_lt_of_pos x (show 0 < s by omega)
  generalize x / s = q at e1 ⊢
  rw [Int.mul_comm] at e1
  rcases Int.lt_trichotomy (w : Int) q with hlt | heq | hlt
  · have h5 : ((w : Int) + 1) * s ≤ q * s := Int.mul_le_mul_of_nonneg_right (by omega) (by omega)
    rw [Int.add_mul, Int.one_mul] at h5
    omega
  · exact heq
  · have h5 : (q + 1) * s ≤ (w : Int) * s := Int.mul_le_mul_of_nonneg_right (by omega) (by omega)
    rw [Int.add_mul, Int.one_mul] at h5
    omega
theorem AOk.last (h : AOk B N Y) (hl : (Y.C.length : Int) = 2 * N + 2 * B.t) {c : Int} (c0 : 0 ≤ c) (c1 : c < 2 * N + 2 * B.t) : lastE Y.L c = Y.C.getD c.toNat 0 := by
  have := h.cells c.toNat (by omega)
  rw [Int.toNat_of_nonneg c0] at this
  exact this
theorem AOk.may (h : AOk B N Y) (hT : (B.T : Int) = B.t) (hl : (Y.C.length : Int) = 2 * N + 2 * B.t) (he : EvAt B N Y w e)
    (hm : if e.cell < N then MayW B.s e else if e.cell < 2 * N then MayV N B.s (lastE Y.L) (loadE Y.L) e else if e.cell < 2 * N + B.t then MayH N e else MayN B.so (e.cell - 2 * N - B.t) e) : May B.t B.s B.so N Y.L e :=
  ⟨by rw [he.who]; omega, by rw [he.who]; have := he.wT; omega, he.c0, he.c1, he.old.trans (h.last hl he.c0 he.c1).symm, hm⟩
theorem last_noted {who : Int} {C C' : List Int} {E : List Ev} {L : List Ev} (hN : Noted who C C' E) (h : ∀ j : Nat, j < C.length → lastE L (j : Int) = C.getD j 0) : ∀ j : Nat, j < C'.length → lastE (L ++ E) (j : Int) = C'.getD j 0 := fun j hj => by
  rcases hN with ⟨rfl, rfl⟩ | ⟨e, rfl, hN⟩
  · rw [List.append_nil]
    exact h j hj
  · have c0 := hN.c0
    have c1 := hN.c1
    have hc := hN.cells
    rw [hc, List.length_set] at hj
    rw [lastE_snoc, hc]
    by_cases hx : e.cell = (j : Int)
    · rw [if_pos hx, show e.cell.toNat = j by omega, getD_set_eq' _ hj]
    · rw [if_neg hx, getD_set_ne' _ (by omega)]
      exact h j hj
theorem EvAt.of (hl : (Y.C.length : Int) = 2 * N + 2 * B.t) (hwT : w < B.T) {C' : List Int} (hN : Note1 w Y.C C' e) : EvAt B N Y w e :=
  ⟨hN.who', hwT, hN.c0, by have := hN.c1; omega, hN.old⟩
end

theorem stp_so {nb : Nat} {k : Tk} {C : List Int} {now : Int} : (stp nb k C now).1.so = k.so := by
  have hf : ∀ (k : Tk) (x y : Int), (fin k x y).so = k.so := fun k x y => by unfold fin; split <;> rfl
  unfold stp
  repeat' split
  all_goals first | rfl | exact hf _ _ _
/-- What a step of a stamp by Stutter knows of its own number. -/
theorem stp_own {nb : Nat} {n : Int} {k : Tk} {C : List Int} {now : Int} (h : k.Ok nb n C) (ho : k.so = 1) (hs : k.ph = 0 → k.who < k.steps → low (C.getD (nb + k.who.toNat) 0) ≤ k.seen) (hp : (stp nb k C now).1.ph = 0) (hw : k.who < (stp nb k C now).1.steps) :
    low ((stp nb k C now).2.1.getD (nb + k.who.toNat) 0) ≤ (stp nb k C now).1.seen := by
  have w0 := h.w0
  have s0 := h.s0
  unfold stp at hp hw ⊢
  by_cases hp0 : k.ph = 0
  · rw [if_pos hp0, if_neg (by omega), if_pos ho] at hp hw ⊢
    by_cases hst : k.steps < k.t
    · rw [if_pos hst] at hw ⊢
      have hw' : k.who < k.steps + 1 := hw
      show low (C.getD (nb + k.who.toNat) 0) ≤ max k.seen (low (C.getD (nb + k.steps.toNat) 0))
      rcases (by omega : k.who < k.steps ∨ k.who = k.steps) with hq | hq
      · have := hs hp0 hq
        omega
      · rw [hq]
        exact Int.le_max_right _ _
    · rw [if_neg hst] at hp
      split at hp
      · exact absurd hp (by show ¬ (1 : Int) = 0; decide)
      · exact absurd hp (by show ¬ (2 : Int) = 0; decide)
  · rw [if_neg hp0] at hp
    exact absurd hp hp0
theorem stp_cell {nb : Nat} {n : Int} {k : Tk} {C : List Int} {now so : Int} (h : k.Ok nb n C) (hso : k.so = so) (hf : ∀ j, 0 ≤ C.getD j 0 ∧ C.getD j 0 ≤ 18446744073709551615) (hs : so = 1 → k.who < k.steps → low (C.getD (nb + k.who.toNat) 0) ≤ k.seen) :
    (stp nb k C now).2.1 = C ∨ ∃ c x, (stp nb k C now).2.1 = C.set c x ∧ nb ≤ c ∧ (so = 1 → c = nb + k.who.toNat) := by
  have hN := stp_noted (now := now) h
  have w0 := h.w0
  rcases stp_may (now := now) h hso hf hs with hn | ⟨e, he, w1, x1, x2, x3, x4⟩
  · rw [hn] at hN
    rcases hN with ⟨_, hC⟩ | ⟨x, hx, _⟩
    · exact .inl hC
    · cases hx
  · rw [he] at hN
    rcases hN with ⟨h0, _⟩ | ⟨x, hx, hN⟩
    · cases h0
    · cases hx
      have c1 := hN.c1
      by_cases h1 : so = 1 ∧ e.op = 0
      · left
        rw [hN.cells, hN.new (.inl h1.2)]
        exact set_back (by omega)
      · refine .inr ⟨e.cell.toNat, e.new, hN.cells, by omega, fun hq => ?_⟩
        rcases x4 with ⟨q, _⟩ | ⟨_, q | ⟨_, q, _⟩⟩ | ⟨q, _⟩
        · omega
        · exact absurd ⟨hq, q⟩ h1
        · omega
        · omega

section
variable {B : YB} {N n : Nat} {Y Y' : Yd} {w : Nat}
/-- What a step of a put notes may be; what it turns; what is known of it behind that. -/
theorem AOk.putStep (h : AOk B N Y) (ho : YOk (plOf B N) B.T n Y) (hc : YCf B N) (hT : (B.T : Int) = B.t) (hl : (Y.C.length : Int) = 2 * N + 2 * B.t) (hfit : ∀ j, 0 ≤ Y.C.getD j 0 ∧ Y.C.getD j 0 ≤ 18446744073709551615) {k : Pu} {i : Nat} (hw : Y.ts[w]? = some (some (.pu k, i))) (now : Int) :
    (∀ e ∈ k.ev N (2 * N + B.T) (2 * N) Y.C now, May B.t B.s B.so N Y.L e) ∧ Eff B N Y w (k.cells N (2 * N + B.T) Y.C now) ∧
      ((k.step ((w : Int) * B.s) (2 * N + B.T) (2 * N) Y.C now).ph = 0 → PA B.so (2 * N + B.T) (k.cells N (2 * N + B.T) Y.C now) (k.step ((w : Int) * B.s) (2 * N + B.T) (2 * N) Y.C now)) := by
  have hP := h.put w k i hw
  have hF := ho.putF hc hT hl hw
  have hok := hF.ok
  have f1 := hF.who; have f2 := hF.ph; have f5 := hF.lo; have f6 := hF.hi; have f7 := hF.n1; have f8 := hF.wT
  obtain ⟨m0, _⟩ := hc.own hT f8
  have s1 := hc.lay.s1
  have hby : (Wk.pu k).by' w := f1
  have hkok : (Wk.pu k).Ok (plOf B N w) Y.C := hok
  have hnot : Noted w Y.C (k.cells N (2 * N + B.T) Y.C now) (k.ev N (2 * N + B.T) (2 * N) Y.C now) := Wk.noted (T := .pu k) (P := plOf B N w) (now := now) hkok hby
  have hev : ∀ e ∈ k.ev N (2 * N + B.T) (2 * N) Y.C now, EvAt B N Y w e := fun e he => by
    rcases hnot with ⟨h0, _⟩ | ⟨x, hx, hN⟩
    · rw [h0] at he
      cases he
    · rw [hx] at he
      cases List.mem_singleton.1 he
      exact EvAt.of hl f8 hN
  have hnp : ¬ k.ph ≠ 0 := by omega
  have hown := own_who s1 f5 f6
  rcases hok.at' f2 with ⟨a1, a2, a3⟩ | ⟨a1, a2, a3⟩ | ⟨a1, a2, a3⟩ | ⟨a1, a2, a3⟩
  · have e1 : k.ev N (2 * N + B.T) (2 * N) Y.C now = k.cl.ev (2 * N) Y.C := by unfold Pu.ev; rw [if_neg hnp, if_pos a1]
    have e2 : k.cells N (2 * N + B.T) Y.C now = Y.C := by unfold Pu.cells; rw [if_neg hnp, if_pos a1]
    have e3 : k.step ((w : Int) * B.s) (2 * N + B.T) (2 * N) Y.C now = ({ k with cl := k.cl.step ((w : Int) * B.s) (2 * N) Y.C } : Pu).after (k.cl.step ((w : Int) * B.s) (2 * N) Y.C).ph := by unfold Pu.step; rw [if_neg hnp, if_pos a1]
    rw [e2]
    refine ⟨fun e he => ?_, .same, fun hp => ?_⟩
    · have hE := hev e he
      rw [e1] at he
      unfold Cl.ev at he
      rw [if_pos a2] at he
      have := List.mem_singleton.1 he
      subst this
      refine h.may hT hl hE ?_
      have g0 := hok.cl.g0; have g1 := hok.cl.g1
      have hct := hok.ct
      have hkt := hF.t
      show if ((k.cl.cell (2 * N) : Nat) : Int) < N then _ else if ((k.cl.cell (2 * N) : Nat) : Int) < 2 * N then _ else if ((k.cl.cell (2 * N) : Nat) : Int) < 2 * N + B.t then _ else _
      unfold Cl.cell
      by_cases hs : k.cl.steps = 0
      · rw [if_pos hs, if_pos (by omega)]
        exact .inl rfl
      · rw [if_neg hs, if_neg (by omega), if_neg (by omega), if_pos (by omega)]
        exact .inl rfl
    · rw [e3] at hp ⊢
      have hcl : (({ k with cl := k.cl.step ((w : Int) * B.s) (2 * N) Y.C } : Pu).after (k.cl.step ((w : Int) * B.s) (2 * N) Y.C).ph).cl = k.cl.step ((w : Int) * B.s) (2 * N) Y.C := Pu.after_cl _ _
      have htk : (({ k with cl := k.cl.step ((w : Int) * B.s) (2 * N) Y.C } : Pu).after (k.cl.step ((w : Int) * B.s) (2 * N) Y.C).ph).tk = k.tk := Pu.after_tk _ _
      have hwho : (({ k with cl := k.cl.step ((w : Int) * B.s) (2 * N) Y.C } : Pu).after (k.cl.step ((w : Int) * B.s) (2 * N) Y.C).ph).who = k.who := (Pu.after_same _ _).who
      have hph : (k.cl.step ((w : Int) * B.s) (2 * N) Y.C).ph ≠ 2 := fun h2 => by
        rw [h2] at hp
        exact absurd hp (by show ¬ (2 : Int) = 0; decide)
      refine ⟨by rw [htk]; exact hP.so', fun _ hq => ?_, fun _ q1 q2 q3 => ?_⟩
      · rw [hcl] at hq ⊢
        revert hq hph
        unfold Cl.step
        rw [if_pos a2]
        by_cases hs : k.cl.steps = 0
        · rw [if_pos hs, show k.cl.cell (2 * N) = k.cl.slot.toNat from if_pos hs]
          unfold Cl.look
          have hpass : ((k.cl.word (Y.C.getD k.cl.slot.toNat 0)).pass ((w : Int) * B.s)).ph ≠ 2 → (((k.cl.word (Y.C.getD k.cl.slot.toNat 0)).pass ((w : Int) * B.s)).ph = 1 ∨ 1 ≤ ((k.cl.word (Y.C.getD k.cl.slot.toNat 0)).pass ((w : Int) * B.s)).steps) → False := by
            unfold Cl.pass
            split
            · intro hq _
              exact hq rfl
            · intro _ hq
              rcases hq with hq | hq
              · have hq' : k.cl.ph = 1 := hq
                omega
              · exact absurd hq (by show ¬ (1 : Int) ≤ 0; decide)
          split
          · intro h1 h2
            exact (hpass h1 h2).elim
          · split
            · rename_i hx
              intro _ _
              exact ⟨by show Y.C.getD k.cl.slot.toNat 0 % 4 ≠ 1; omega, rfl⟩
            · split
              · rename_i hx
                intro _ _
                exact ⟨by show Y.C.getD k.cl.slot.toNat 0 % 4 ≠ 1; omega, rfl⟩
              · intro h1 h2
                exact (hpass h1 h2).elim
        · rw [if_neg hs]
          have hpre := hP.word f2 (.inr (by have := hok.cl.g0; omega))
          unfold Cl.guard
          split
          · unfold Cl.pass
            split
            · intro hq _
              exact absurd rfl hq
            · intro _ hq
              rcases hq with hq | hq
              · have hq' : k.cl.ph = 1 := hq
                omega
              · exact absurd hq (by show ¬ (1 : Int) ≤ 0; decide)
          · split
            · intro _ _
              exact hpre
            · intro _ _
              exact hpre
      · rw [htk, hwho] at q3 ⊢
        rw [htk] at q2
        exact hP.num f2 q1 q2 q3
  · have e1 : k.ev N (2 * N + B.T) (2 * N) Y.C now = (stp (2 * N + B.T) k.tk Y.C now).2.2.toList := by unfold Pu.ev; rw [if_neg hnp, if_neg (by omega), if_pos a1]
    have e2 : k.cells N (2 * N + B.T) Y.C now = (stp (2 * N + B.T) k.tk Y.C now).2.1 := by unfold Pu.cells; rw [if_neg hnp, if_neg (by omega), if_pos a1]
    have e3 : k.step ((w : Int) * B.s) (2 * N + B.T) (2 * N) Y.C now = ({ k with tk := (stp (2 * N + B.T) k.tk Y.C now).1 } : Pu).after (stp (2 * N + B.T) k.tk Y.C now).1.ph := by unfold Pu.step; rw [if_neg hnp, if_neg (by omega), if_pos a1]
    have htw := hok.tw
    have htt := hok.tt
    have hkt := hF.t
    have hnum : B.so = 1 → k.tk.ph = 0 → k.tk.who < k.tk.steps → low (Y.C.getD (2 * N + B.T + k.tk.who.toNat) 0) ≤ k.tk.seen := fun q1 q2 q3 => by
      rw [htw] at q3 ⊢
      exact hP.num f2 q1 q2 q3
    refine ⟨fun e he => ?_, ?_, fun hp => ?_⟩
    · have hE := hev e he
      rw [e1] at he
      rcases stp_may (now := now) hok.tk hP.so' hfit (fun q1 q2 => hnum q1 a3 q2) with hn | ⟨x, hx, _, x1, x2, _, x3⟩
      · rw [hn] at he
        cases he
      · rw [hx] at he
        have : e = x := List.mem_singleton.1 he
        subst this
        refine h.may hT hl hE ?_
        rw [if_neg (by omega), if_neg (by omega), if_neg (by omega)]
        rw [show e.cell - 2 * N - B.t = e.cell - ((2 * N + B.T : Nat) : Int) by omega]
        exact x3
    · rw [e2]
      rcases stp_cell (now := now) hok.tk hP.so' hfit (fun q1 q2 => hnum q1 a3 q2) with hq | ⟨c, x, hq, h1, h2⟩
      · rw [hq]
        exact .same
      · rw [hq]
        exact .number c x h1 (fun hs => by rw [h2 hs, htw, f1, Int.toNat_natCast])
    · rw [e3] at hp ⊢
      rw [e2]
      have hcl : (({ k with tk := (stp (2 * N + B.T) k.tk Y.C now).1 } : Pu).after (stp (2 * N + B.T) k.tk Y.C now).1.ph).cl = k.cl := Pu.after_cl _ _
      have htk : (({ k with tk := (stp (2 * N + B.T) k.tk Y.C now).1 } : Pu).after (stp (2 * N + B.T) k.tk Y.C now).1.ph).tk = (stp (2 * N + B.T) k.tk Y.C now).1 := Pu.after_tk _ _
      have hwho : (({ k with tk := (stp (2 * N + B.T) k.tk Y.C now).1 } : Pu).after (stp (2 * N + B.T) k.tk Y.C now).1.ph).who = k.who := (Pu.after_same _ _).who
      refine ⟨by rw [htk, stp_so]; exact hP.so', fun _ hq => ?_, fun _ q1 q2 q3 => ?_⟩
      · rw [hcl] at hq ⊢
        have hsame : (stp (2 * N + B.T) k.tk Y.C now).2.1.getD k.cl.slot.toNat 0 = Y.C.getD k.cl.slot.toNat 0 := by
          rcases stp_cell (now := now) hok.tk hP.so' hfit (fun q1 q2 => hnum q1 a3 q2) with hq | ⟨c, x, hq, h1, h2⟩
          · rw [hq]
          · rw [hq, getD_set_ne' x (by omega)]
        rw [hsame]
        exact hP.word f2 hq
      · rw [htk, hwho] at q3 ⊢
        rw [htk] at q2
        have h9 := stp_own (now := now) hok.tk (hP.so'.trans q1) (fun z1 z2 => hnum q1 z1 z2) q2 (by rw [htw]; exact q3)
        rw [htw] at h9
        exact h9
  · have e1 : k.ev N (2 * N + B.T) (2 * N) Y.C now = [⟨k.who, 1, (N + k.cl.slot.toNat : Nat), Y.C.getD (N + k.cl.slot.toNat) 0, k.value, true⟩] := by unfold Pu.ev; rw [if_neg hnp, if_neg (by omega), if_neg (by omega), if_pos a1]
    have e2 : k.cells N (2 * N + B.T) Y.C now = Y.C.set (N + k.cl.slot.toNat) k.value := by unfold Pu.cells; rw [if_neg hnp, if_neg (by omega), if_neg (by omega), if_pos a1]
    have e3 : k.step ((w : Int) * B.s) (2 * N + B.T) (2 * N) Y.C now = { k with next := 3 } := by unfold Pu.step; rw [if_neg hnp, if_neg (by omega), if_neg (by omega), if_pos a1]
    have hpre := hP.word f2 (.inl a2)
    have hkl : Y.C.length = 2 * N + 2 * B.T := by omega
    refine ⟨fun e he => ?_, ?_, fun hp => ?_⟩
    · have hE := hev e he
      rw [e1] at he
      have := List.mem_singleton.1 he
      subst this
      refine h.may hT hl hE ?_
      show if ((N + k.cl.slot.toNat : Nat) : Int) < N then _ else if ((N + k.cl.slot.toNat : Nat) : Int) < 2 * N then _ else _
      rw [if_neg (by omega), if_pos (by omega)]
      have ec : ((N + k.cl.slot.toNat : Nat) : Int) - N = k.cl.slot := by omega
      refine .inr ⟨rfl, ?_, ?_⟩
      · show k.who = (((N + k.cl.slot.toNat : Nat) : Int) - N) / B.s
        rw [ec, f1]
        exact hown
      · show lastE Y.L (((N + k.cl.slot.toNat : Nat) : Int) - N) % 4 ≠ 1
        rw [ec, h.last hl (by omega) (by omega)]
        exact hpre.1
    · rw [e2]
      exact .value _ _ (by omega) (by omega)
    · rw [e3, e2]
      refine ⟨hP.so', fun q1 q2 => ?_, fun _ _ q2 _ => ?_⟩
      · show (Y.C.set (N + k.cl.slot.toNat) k.value).getD k.cl.slot.toNat 0 % 4 ≠ 1 ∧ (Y.C.set (N + k.cl.slot.toNat) k.value).getD k.cl.slot.toNat 0 / 8 % 8192 = k.cl.wg
        rw [getD_set_ne' _ (by omega)]
        exact hpre
      · have q2' : k.tk.ph = 0 := q2
        omega
  · have e1 : k.ev N (2 * N + B.T) (2 * N) Y.C now = [⟨k.who, 1, (k.cl.slot.toNat : Nat), Y.C.getD k.cl.slot.toNat 0, k.pack, true⟩] := by unfold Pu.ev; rw [if_neg hnp, if_neg (by omega), if_neg (by omega), if_neg (by omega)]
    have e2 : k.cells N (2 * N + B.T) Y.C now = Y.C.set k.cl.slot.toNat k.pack := by unfold Pu.cells; rw [if_neg hnp, if_neg (by omega), if_neg (by omega), if_neg (by omega)]
    have e3 : k.step ((w : Int) * B.s) (2 * N + B.T) (2 * N) Y.C now = { k with ph := 1 } := by unfold Pu.step; rw [if_neg hnp, if_neg (by omega), if_neg (by omega), if_neg (by omega)]
    have hpre := hP.word f2 (.inl a2)
    have hg := hok.wg (.inl a2)
    have hst := hok.st a3
    have hpp := pack_parts hok.e0 hok.e1 hg.1 hg.2 hst.1 hst.2.1 hst.2.2
    refine ⟨fun e he => ?_, ?_, fun hp => ?_⟩
    · have hE := hev e he
      rw [e1] at he
      have := List.mem_singleton.1 he
      subst this
      refine h.may hT hl hE ?_
      show if ((k.cl.slot.toNat : Nat) : Int) < N then _ else _
      rw [if_pos (by omega)]
      refine .inr (.inl ⟨rfl, ?_, hpre.1, hpp.1, ?_, ?_, ?_⟩)
      · show k.who = ((k.cl.slot.toNat : Nat) : Int) / B.s
        rw [Int.toNat_of_nonneg (by omega), f1]
        exact hown
      · show k.pack / 8 % 8192 = Y.C.getD k.cl.slot.toNat 0 / 8 % 8192 + 1
        rw [hpre.2]
        exact hpp.2.1
      · show k.pack / 65536 % 16777216 ≤ k.pack / 1099511627776
        unfold Pu.pack
        rw [hpp.2.2.1, hpp.2.2.2]
        exact hst.2.1
      · show k.pack / 1099511627776 < 16777215
        unfold Pu.pack
        rw [hpp.2.2.2]
        exact hst.2.2
    · rw [e2]
      exact .word k i hw a2 k.pack
    · rw [e3] at hp
      exact absurd hp (by show ¬ (1 : Int) = 0; decide)
end
section
variable {B : YB} {N n : Nat} {Y Y' : Yd} {w : Nat}
/-- A put never comes by a hazard that stands. -/
theorem AOk.putCross (h : AOk B N Y) (ho : YOk (plOf B N) B.T n Y) (hc : YCf B N) (hT : (B.T : Int) = B.t) (hl : (Y.C.length : Int) = 2 * N + 2 * B.t) {k : Pu} {i : Nat} (hw : Y.ts[w]? = some (some (.pu k, i))) (now : Int)
    {v : Nat} {g : Ge} {j : Nat} {a : Ta} (hg : Y.ts[v]? = some (some (.ge g, j))) (ha : g.ta = some a) (hn : a.next = 2) (hs : (k.step ((w : Int) * B.s) (2 * N + B.T) (2 * N) Y.C now).cl.slot = a.slot) :
    ¬ (k.step ((w : Int) * B.s) (2 * N + B.T) (2 * N) Y.C now).past a.who := by
  have hF := ho.putF hc hT hl hw
  have hok := hF.ok
  have f2 := hF.ph
  have hG := ho.getF hg
  obtain ⟨b1, b2, b3, b4, b5⟩ := hG.ta a ha
  have b6 := hG.wT
  have hA := h.get v g j a hg ha
  have hz := hA.hz (.inr hn)
  obtain ⟨hword, _⟩ := hA.word hn
  have hlive := hA.live
  have htk := (tkW_parts b5.x0).1
  have hx12 : Y.C.getD a.slot.toNat 0 % 4 = 1 ∨ Y.C.getD a.slot.toNat 0 % 4 = 2 := by
    rcases hword with hq | hq <;> rw [hq]
    · exact .inl hlive
    · exact .inr htk
  have hcr := h.cross v g j a hg ha hn w k i hw
  have hnp : ¬ k.ph ≠ 0 := by omega
  have hkt := hF.t
  have hct := hok.ct
  rintro ⟨p1, p2⟩
  rcases hok.at' f2 with ⟨a1, a2, a3⟩ | ⟨a1, a2, a3⟩ | ⟨a1, a2, a3⟩ | ⟨a1, a2, a3⟩
  · have e3 : k.step ((w : Int) * B.s) (2 * N + B.T) (2 * N) Y.C now = ({ k with cl := k.cl.step ((w : Int) * B.s) (2 * N) Y.C } : Pu).after (k.cl.step ((w : Int) * B.s) (2 * N) Y.C).ph := by unfold Pu.step; rw [if_neg hnp, if_pos a1]
    rw [e3] at p1 p2 hs
    rw [Pu.after_cl] at p2 hs
    have hph : (k.cl.step ((w : Int) * B.s) (2 * N) Y.C).ph ≠ 2 := fun h2 => by
      rw [h2] at p1
      exact absurd p1 (by show ¬ (2 : Int) = 0; decide)
    have hpass : ∀ c : Cl, c.ph = 0 → (c.pass ((w : Int) * B.s)).ph ≠ 2 → ((c.pass ((w : Int) * B.s)).ph = 1 ∨ a.who < (c.pass ((w : Int) * B.s)).steps - 1) → False := fun c hc0 => by
      unfold Cl.pass
      split
      · intro hq _
        exact hq rfl
      · intro _ hq
        rcases hq with hq | hq
        · have hq' : c.ph = 1 := hq
          omega
        · have hq' : a.who < (0 : Int) - 1 := hq
          omega
    revert hph p2 hs
    unfold Cl.step
    rw [if_pos a2]
    by_cases hst : k.cl.steps = 0
    · rw [if_pos hst, show k.cl.cell (2 * N) = k.cl.slot.toNat from if_pos hst]
      unfold Cl.look
      split
      · intro q2 q1 q3
        exact hpass (k.cl.word _) a2 q3 q1
      · split
        · rename_i hx
          intro q2 q1 q3
          have q2' : k.cl.slot = a.slot := q2
          rw [q2'] at hx
          omega
        · split
          · intro q2 q1 q3
            rcases q1 with q1 | q1
            · have q1' : k.cl.ph = 1 := q1
              omega
            · have q1' : a.who < (1 : Int) - 1 := q1
              omega
          · intro q2 q1 q3
            exact hpass (k.cl.word _) a2 q3 q1
    · rw [if_neg hst, show k.cl.cell (2 * N) = 2 * N + (k.cl.steps - 1).toNat from if_neg hst]
      have hg0 := hok.cl.g0
      have hg1 := hok.cl.g1
      have hkey : k.cl.slot = a.slot → a.who = k.cl.steps - 1 → Y.C.getD (2 * N + (k.cl.steps - 1).toNat) 0 = k.cl.slot + 1 := fun q1 q2 => by rw [← q2, q1]; exact hz
      unfold Cl.guard
      split
      · intro q2 q1 q3
        exact hpass k.cl a2 q3 q1
      · rename_i hx
        split
        · rename_i hst2
          intro q2 q1 q3
          have q2' : k.cl.slot = a.slot := q2
          rcases (by omega : a.who = k.cl.steps - 1 ∨ a.who < k.cl.steps - 1) with hq | hq
          · exact hx (hkey q2' hq)
          · exact hcr q2' ⟨f2, .inr hq⟩
        · intro q2 q1 q3
          have q2' : k.cl.slot = a.slot := q2
          rcases q1 with q1 | q1
          · have q1' : k.cl.ph = 1 := q1
            omega
          · have q1' : a.who < k.cl.steps + 1 - 1 := q1
            rcases (by omega : a.who = k.cl.steps - 1 ∨ a.who < k.cl.steps - 1) with hq | hq
            · exact hx (hkey q2' hq)
            · exact hcr q2' ⟨f2, .inr hq⟩
  · have e3 : k.step ((w : Int) * B.s) (2 * N + B.T) (2 * N) Y.C now = ({ k with tk := (stp (2 * N + B.T) k.tk Y.C now).1 } : Pu).after (stp (2 * N + B.T) k.tk Y.C now).1.ph := by unfold Pu.step; rw [if_neg hnp, if_neg (by omega), if_pos a1]
    rw [e3, Pu.after_cl] at p2 hs
    exact hcr hs ⟨f2, p2⟩
  · have e3 : k.step ((w : Int) * B.s) (2 * N + B.T) (2 * N) Y.C now = { k with next := 3 } := by unfold Pu.step; rw [if_neg hnp, if_neg (by omega), if_neg (by omega), if_pos a1]
    rw [e3] at p2 hs
    exact hcr hs ⟨f2, p2⟩
  · have e3 : k.step ((w : Int) * B.s) (2 * N + B.T) (2 * N) Y.C now = { k with ph := 1 } := by unfold Pu.step; rw [if_neg hnp, if_neg (by omega), if_neg (by omega), if_neg (by omega)]
    rw [e3] at p1
    exact absurd p1 (by show ¬ (1 : Int) = 0; decide)

/-- What a step of a get notes may be; what it turns; what is known of it behind that. -/
theorem AOk.getStep (h : AOk B N Y) (ho : YOk (plOf B N) B.T n Y) (hc : YCf B N) (hT : (B.T : Int) = B.t) (hl : (Y.C.length : Int) = 2 * N + 2 * B.t) {k : Ge} {i : Nat} (hw : Y.ts[w]? = some (some (.ge k, i))) {z : Int} (hz : k.ask Y.C z) :
    (∀ e ∈ k.ev N (2 * N + w) Y.C, May B.t B.s B.so N Y.L e) ∧ Eff B N Y w (k.cells N (2 * N + w) Y.C) ∧
      ∀ a, (k.step N (2 * N + w) Y.C z).ta = some a → (k.step N (2 * N + w) Y.C z).ph = 0 → TA N (k.cells N (2 * N + w) Y.C) (Y.L ++ k.ev N (2 * N + w) Y.C) a ∧ (a.next = 2 → a.who = w ∧ 0 ≤ a.slot ∧ Y.C.getD a.slot.toNat 0 % 4 = 1) := by
  have hF := ho.getF hw
  have hok := hF.ok
  have f2 := hF.ph
  have f8 := hF.wT
  have hnp : ¬ k.ph ≠ 0 := by omega
  have hby : (Wk.ge k).by' w := ⟨hF.who, hF.sw, fun a ha => (hF.ta a ha).1⟩
  have hkok : (Wk.ge k).Ok (plOf B N w) Y.C := (ho.task w _ i hw).1
  have hnot : Noted w Y.C (k.cells N (2 * N + w) Y.C) (k.ev N (2 * N + w) Y.C) := Wk.noted (T := .ge k) (P := plOf B N w) (now := 0) hkok hby
  have hev : ∀ e ∈ k.ev N (2 * N + w) Y.C, EvAt B N Y w e := fun e he => by
    rcases hnot with ⟨h0, _⟩ | ⟨x, hx, hN⟩
    · rw [h0] at he
      cases he
    · rw [hx] at he
      cases List.mem_singleton.1 he
      exact EvAt.of hl f8 hN
  cases hta : k.ta with
  | none =>
    have e1 : k.ev N (2 * N + w) Y.C = k.sn.ev Y.C := by unfold Ge.ev; rw [if_neg hnp, hta]
    have e2 : k.cells N (2 * N + w) Y.C = Y.C := by unfold Ge.cells; rw [if_neg hnp, hta]
    have e3 : k.step N (2 * N + w) Y.C z = k.read (k.sn.step Y.C) z := by unfold Ge.step; rw [if_neg hnp, hta]
    obtain ⟨hsn, hsp⟩ := hok.sn f2 hta
    rw [e2, e3]
    refine ⟨fun e he => ?_, .same, fun a ha hp => ?_⟩
    · have hE := hev e he
      rw [e1] at he
      unfold Sn.ev at he
      rw [if_pos hsp] at he
      have := List.mem_singleton.1 he
      subst this
      refine h.may hT hl hE ?_
      have hslt : k.sn.slot < N := by
        have q1 := hsn.s0; have q2 := hsn.r0; have q3 := hsn.s1; have q4 := hsn.N
        unfold Sn.slot
        have := Int.emod_nonneg (k.sn.start + k.sn.read) (show (k.sn.N : Int) ≠ 0 by omega)
        have := Int.emod_lt_of_pos (k.sn.start + k.sn.read) (show 0 < (k.sn.N : Int) by omega)
        omega
      show if ((k.sn.slot : Nat) : Int) < N then _ else _
      rw [if_pos (by omega)]
      exact .inl rfl
    · revert ha hp
      unfold Ge.read
      split
      · intro ha _
        have ha' : k.ta = some a := ha
        rw [hta] at ha'
        cases ha'
      · split
        · intro _ hp
          exact absurd hp (by show ¬ (2 : Int) = 0; decide)
        · rename_i hsn1 hz0
          intro ha _
          cases ha
          have hE := hz f2 hta (Classical.not_not.1 hsn1)
          refine ⟨⟨?_, fun hh => by rcases hh with hh | hh <;> exact absurd hh (by show ¬ (0 : Int) = _; decide), fun hh => absurd hh (by show ¬ (0 : Int) = 2; decide)⟩, fun hh => absurd hh (by show ¬ (0 : Int) = 2; decide)⟩
          rcases hE with ⟨hz1, _⟩ | ⟨q, rfl, _, hq, _⟩
          · omega
          · show (k.sn.step Y.C).X.getD (q : Int).toNat 0 % 4 = 1
            rw [Int.toNat_natCast]
            exact hq
  | some a =>
    obtain ⟨b1, b2, b3, b4, b5⟩ := hF.ta a hta
    have hA := h.get w k i a hw hta
    have e1 : k.ev N (2 * N + w) Y.C = a.ev a.slot.toNat (N + a.slot.toNat) (2 * N + w) Y.C := by unfold Ge.ev; rw [if_neg hnp, hta]
    have e2 : k.cells N (2 * N + w) Y.C = a.cells a.slot.toNat (2 * N + w) Y.C := by unfold Ge.cells; rw [if_neg hnp, hta]
    have e3 : k.step N (2 * N + w) Y.C z = k.grab N (a.go a.slot.toNat (N + a.slot.toNat) Y.C) := by unfold Ge.step; rw [if_neg hnp, hta]
    have on : ∀ a' : Ta, a.go a.slot.toNat (N + a.slot.toNat) Y.C = a' → a'.ph = 0 → (k.step N (2 * N + w) Y.C z).ta = some a' := fun a' g hp' => by
      rw [e3, g]
      unfold Ge.grab
      rw [if_neg (by omega), if_neg (by omega)]
    have hlen : Y.C.length = 2 * N + 2 * B.T := by omega
    have hword : ∀ {x : Ev}, x ∈ k.ev N (2 * N + w) Y.C → x.cell = (a.slot.toNat : Nat) → MayW B.s x → May B.t B.s B.so N Y.L x := fun {x} hx hx2 hm => by
      refine h.may hT hl (hev x hx) ?_
      rw [if_pos (by omega)]
      exact hm
    have hhz : ∀ {x : Ev}, x ∈ k.ev N (2 * N + w) Y.C → x.cell = ((2 * N + w : Nat) : Int) → x.who = w → x.op = 1 → May B.t B.s B.so N Y.L x := fun {x} hx hx2 hx3 hx4 => by
      refine h.may hT hl (hev x hx) ?_
      rw [if_neg (by omega), if_neg (by omega), if_pos (by omega)]
      exact .inr ⟨hx4, by omega⟩
    rcases b5.st b2 with ⟨hn, hlo⟩ | ⟨hn, hlo⟩ | ⟨hn, hlo⟩ | ⟨hn, hlo⟩ | hn
    · obtain ⟨g1, g2, g3⟩ := go_0 (j := a.slot.toNat) (jv := N + a.slot.toNat) (hz := 2 * N + w) (C := Y.C) b2 hn
      refine ⟨fun e he => ?_, by rw [e2, g2]; exact .hazard _, fun a' ha' _ => ?_⟩
      · have he' := he
        rw [e1, g3] at he'
        have := List.mem_singleton.1 he'
        subst this
        exact hhz he rfl b1 rfl
      · rw [on _ g1 b2] at ha'
        cases ha'
        refine ⟨⟨hA.live, fun _ => ?_, fun hh => absurd hh (by show ¬ (1 : Int) = 2; decide)⟩, fun hh => absurd hh (by show ¬ (1 : Int) = 2; decide)⟩
        rw [e2, g2]
        show (Y.C.set (2 * N + w) (a.slot + 1)).getD (2 * N + a.who.toNat) 0 = a.slot + 1
        rw [b1, Int.toNat_natCast]
        exact getD_set_eq' _ (by omega)
    · by_cases hwd : Y.C.getD a.slot.toNat 0 = a.word
      · obtain ⟨g1, g2, g3⟩ := go_1y (jv := N + a.slot.toNat) (hz := 2 * N + w) b2 hn hwd
        refine ⟨fun e he => ?_, by rw [e2, g2]; exact .same, fun a' ha' _ => ?_⟩
        · have he' := he
          rw [e1, g3] at he'
          have := List.mem_singleton.1 he'
          subst this
          exact hword he rfl (.inl rfl)
        · rw [on _ g1 b2] at ha'
          cases ha'
          refine ⟨⟨hA.live, fun _ => ?_, fun _ => ⟨?_, ?_⟩⟩, fun _ => ⟨b1, b3, ?_⟩⟩
          · rw [e2, g2]
            exact hA.hz (.inl hn)
          · rw [e2, g2]
            exact .inl hwd
          · rw [e1, g3, loadE_snoc, if_pos ⟨rfl, by show ((a.slot.toNat : Nat) : Int) = a.slot; omega, rfl⟩]
            exact congrArg some hwd
          · show Y.C.getD a.slot.toNat 0 % 4 = 1
            rw [hwd]
            exact hA.live
      · obtain ⟨g1, g2, g3⟩ := go_1n (jv := N + a.slot.toNat) (hz := 2 * N + w) b2 hn hwd
        refine ⟨fun e he => ?_, by rw [e2, g2]; exact .same, fun a' ha' _ => ?_⟩
        · have he' := he
          rw [e1, g3] at he'
          have := List.mem_singleton.1 he'
          subst this
          exact hword he rfl (.inl rfl)
        · rw [on _ g1 b2] at ha'
          cases ha'
          exact ⟨⟨hA.live, fun hh => by rcases hh with hh | hh <;> exact absurd hh (by show ¬ (4 : Int) = _; decide), fun hh => absurd hh (by show ¬ (4 : Int) = 2; decide)⟩, fun hh => absurd hh (by show ¬ (4 : Int) = 2; decide)⟩
    · obtain ⟨g1, g2, g3⟩ := go_2 (j := a.slot.toNat) (jv := N + a.slot.toNat) (hz := 2 * N + w) (C := Y.C) b2 hn
      refine ⟨fun e he => ?_, by rw [e2, g2]; exact .same, fun a' ha' _ => ?_⟩
      · have hE := hev e he
        have he' := he
        rw [e1, g3] at he'
        have := List.mem_singleton.1 he'
        subst this
        refine h.may hT hl hE ?_
        show if ((N + a.slot.toNat : Nat) : Int) < N then _ else if ((N + a.slot.toNat : Nat) : Int) < 2 * N then _ else _
        rw [if_neg (by omega), if_pos (by omega)]
        have ec : ((N + a.slot.toNat : Nat) : Int) - N = a.slot := by omega
        obtain ⟨hw1, hw2⟩ := hA.word hn
        refine .inl ⟨rfl, ⟨a.word, ?_, ?_⟩, ?_⟩
        · show loadE Y.L a.who (((N + a.slot.toNat : Nat) : Int) - N) = some a.word
          rw [ec]
          exact hw2
        · show a.word / 8 % 8192 = lastE Y.L (((N + a.slot.toNat : Nat) : Int) - N) / 8 % 8192
          rw [ec, h.last hl b3 (by omega)]
          rcases hw1 with hq | hq
          · rw [hq]
          · rw [hq]
            exact (tkW_parts b5.x0).2.2.1.symm
        · show lastE Y.L (2 * N + a.who) = ((N + a.slot.toNat : Nat) : Int) - N + 1
          rw [ec, h.last hl (by omega) (by omega), show (2 * (N : Int) + a.who).toNat = 2 * N + a.who.toNat by omega]
          exact hA.hz (.inr hn)
      · rw [on _ g1 b2] at ha'
        cases ha'
        exact ⟨⟨hA.live, fun hh => by rcases hh with hh | hh <;> exact absurd hh (by show ¬ (3 : Int) = _; decide), fun hh => absurd hh (by show ¬ (3 : Int) = 2; decide)⟩, fun hh => absurd hh (by show ¬ (3 : Int) = 2; decide)⟩
    · by_cases hwd : Y.C.getD a.slot.toNat 0 = a.word
      · obtain ⟨g1, g2, g3⟩ := go_3y (jv := N + a.slot.toNat) (hz := 2 * N + w) b2 hn hwd
        have hp := tkW_parts b5.x0
        refine ⟨fun e he => ?_, ?_, fun a' ha' _ => ?_⟩
        · have he' := he
          rw [e1, g3] at he'
          have := List.mem_singleton.1 he'
          subst this
          exact hword he rfl (.inr (.inr ⟨rfl, .inr ⟨hA.live, hp.1, hp.2.1, hp.2.2.1, hp.2.2.2.1, hp.2.2.2.2⟩⟩))
        · rw [e2, g2, ← hwd]
          exact .taken _ (by omega) (by rw [hwd]; exact hA.live)
        · rw [on _ g1 b2] at ha'
          cases ha'
          exact ⟨⟨hA.live, fun hh => by rcases hh with hh | hh <;> exact absurd hh (by show ¬ (4 : Int) = _; decide), fun hh => absurd hh (by show ¬ (4 : Int) = 2; decide)⟩, fun hh => absurd hh (by show ¬ (4 : Int) = 2; decide)⟩
      · obtain ⟨g1, g2, g3⟩ := go_3n (jv := N + a.slot.toNat) (hz := 2 * N + w) b2 hn hwd
        refine ⟨fun e he => ?_, by rw [e2, g2]; exact .same, fun a' ha' _ => ?_⟩
        · have he' := he
          rw [e1, g3] at he'
          have := List.mem_singleton.1 he'
          subst this
          exact hword he rfl (.inr (.inr ⟨rfl, .inl rfl⟩))
        · rw [on _ g1 b2] at ha'
          cases ha'
          exact ⟨⟨hA.live, fun hh => by rcases hh with hh | hh <;> exact absurd hh (by show ¬ (4 : Int) = _; decide), fun hh => absurd hh (by show ¬ (4 : Int) = 2; decide)⟩, fun hh => absurd hh (by show ¬ (4 : Int) = 2; decide)⟩
    · by_cases hlo : a.lost = true
      · obtain ⟨g1, g2, g3⟩ := go_4n (j := a.slot.toNat) (jv := N + a.slot.toNat) (hz := 2 * N + w) (C := Y.C) b2 hn hlo
        refine ⟨fun e he => ?_, by rw [e2, g2]; exact .hazard _, fun a' ha' _ => ?_⟩
        · have he' := he
          rw [e1, g3] at he'
          have := List.mem_singleton.1 he'
          subst this
          exact hhz he rfl b1 rfl
        · rw [e3, g1] at ha'
          unfold Ge.grab at ha'
          rw [if_neg (by show ¬ (2 : Int) = 1; decide), if_pos rfl] at ha'
          cases ha'
      · obtain ⟨g1, g2, g3⟩ := go_4y (j := a.slot.toNat) (jv := N + a.slot.toNat) (hz := 2 * N + w) (C := Y.C) b2 hn (by simpa using hlo)
        refine ⟨fun e he => ?_, by rw [e2, g2]; exact .hazard _, fun a' _ hp => ?_⟩
        · have he' := he
          rw [e1, g3] at he'
          have := List.mem_singleton.1 he'
          subst this
          exact hhz he rfl b1 rfl
        · rw [e3, g1] at hp
          unfold Ge.grab at hp
          rw [if_pos rfl] at hp
          exact absurd hp (by show ¬ (1 : Int) = 0; decide)
end
section
variable {B : YB} {N n : Nat} {Y Y' : Yd}
theorem astep_ts {P : Pl} {w : Nat} {T : Wk} {i : Nat} {z : Int} {v : Nat} {T' : Wk} {i' : Nat} (h : (Y.step P w T i z).ts[v]? = some (some (T', i'))) : (v = w ∧ T' = T.step P Y.C Y.now z ∧ (T.step P Y.C Y.now z).ph = 0) ∨ (v ≠ w ∧ Y.ts[v]? = some (some (T', i'))) := by
  have h' : (if (T.step P Y.C Y.now z).ph = 0 then Y.ts.set w (some (T.step P Y.C Y.now z, i)) else Y.ts.set w Option.none)[v]? = some (some (T', i')) := h
  split at h'
  · rename_i hp
    rcases yset h' with ⟨e1, e2, _⟩ | ⟨e1, e2⟩
    · cases e2
      exact .inl ⟨e1.symm, rfl, hp⟩
    · exact .inr ⟨fun e => e1 e.symm, e2⟩
  · rcases yset h' with ⟨_, e2, _⟩ | ⟨e1, e2⟩
    · cases e2
    · exact .inr ⟨fun e => e1 e.symm, e2⟩
theorem acall_ts {w : Nat} {kd e x s : Int} {T : Wk} {v : Nat} {T' : Wk} {i' : Nat} (h : (Y.call w kd e x s T).ts[v]? = some (some (T', i'))) : (v = w ∧ T' = T) ∨ (v ≠ w ∧ Y.ts[v]? = some (some (T', i'))) := by
  rcases yset h with ⟨e1, e2, _⟩ | ⟨e1, e2⟩
  · cases e2
    exact .inl ⟨e1.symm, rfl⟩
  · exact .inr ⟨fun e => e1 e.symm, e2⟩
theorem wkB_pu {k : Nat} {take : Bool} {e x s : Int} {p : Pu} (h : (Wk.pu p) = wkB B N k take e x s) : p = pu0 B.t B.s B.so B.d k e x ((k : Int) * B.s) := by
  cases take with
  | true => cases h
  | false => cases h; rfl
theorem wkB_ge {k : Nat} {take : Bool} {e x s : Int} {g : Ge} (h : (Wk.ge g) = wkB B N k take e x s) : g = ge0 B.t B.s B.so B.d k e s N := by
  cases take with
  | true => cases h; rfl
  | false => cases h

/-- ALL THAT A YARD NOTES MAY BE: what is known stays known, whatever is done. -/
theorem AOk.next (h : AOk B N Y) (ho : YOk (plOf B N) B.T n Y) (hc : YCf B N) (hT : (B.T : Int) = B.t) (hl : (Y.C.length : Int) = 2 * N + 2 * B.t) (hfit : ∀ j, 0 ≤ Y.C.getD j 0 ∧ Y.C.getD j 0 ≤ 18446744073709551615) (hm : YHow B N Y Y') : AOk B N Y' := by
  cases hm with
  | rest => exact h
  | pass m hm => exact ⟨h.cells, h.all, h.put, h.get, h.cross⟩
  | call w take kd e x s hw he hk =>
    refine ⟨h.cells, h.all, fun v p i hp => ?_, fun v g i a hg ha => ?_, fun v g i a hg ha hn v2 p j hp hs => ?_⟩
    · rcases acall_ts hp with ⟨rfl, hq⟩ | ⟨_, hq⟩
      · have := wkB_pu hq
        subst this
        refine ⟨rfl, fun _ hh => ?_, fun _ _ _ hh => ?_⟩
        · rcases hh with hh | hh
          · exact absurd hh (by show ¬ (0 : Int) = 1; decide)
          · exact absurd hh (by show ¬ (1 : Int) ≤ 0; decide)
        · have hh' : (v : Int) < 0 := hh
          omega
      · exact h.put v p i hq
    · rcases acall_ts hg with ⟨rfl, hq⟩ | ⟨_, hq⟩
      · have := wkB_ge hq
        subst this
        cases ha
      · exact h.get v g i a hq ha
    · rcases acall_ts hg with ⟨rfl, hq⟩ | ⟨_, hq⟩
      · have := wkB_ge hq
        subst this
        cases ha
      · rcases acall_ts hp with ⟨rfl, hq2⟩ | ⟨_, hq2⟩
        · have := wkB_pu hq2
          subst this
          obtain ⟨b1, _⟩ := (ho.getF hq).ta a ha
          rintro ⟨_, hh | hh⟩
          · exact absurd hh (by show ¬ (0 : Int) = 1; decide)
          · have hh' : a.who < (0 : Int) - 1 := hh
            omega
        · exact h.cross v g i a hq ha hn v2 p j hq2 hs
  | step w T i z hw ha =>
    obtain ⟨k1, k2, k3, k4, _⟩ := ho.task w T i hw
    have hwT : w < B.T := by rw [← ho.len]; exact (List.getElem?_eq_some_iff.1 hw).1
    have hnot : Noted w Y.C (T.cells (plOf B N w) Y.C Y.now) (T.ev (plOf B N w) Y.C Y.now) := Wk.noted k1 k3
    have hfit0 : ∀ j, 0 ≤ Y.C.getD j 0 := fun j => (hfit j).1
    have hEw : ∀ x ∈ T.ev (plOf B N w) Y.C Y.now, x.who = w := fun x hx => by
      rcases hnot with ⟨h0, _⟩ | ⟨y, hy, hN⟩
      · rw [h0] at hx
        cases hx
      · rw [hy] at hx
        cases List.mem_singleton.1 hx
        exact hN.who'
    have hE1 : (T.ev (plOf B N w) Y.C Y.now).length ≤ 1 := by
      rcases hnot with ⟨h0, _⟩ | ⟨y, hy, _⟩
      · rw [h0]
        exact Nat.zero_le _
      · rw [hy]
        exact Nat.le_refl _
    have hparts : (∀ x ∈ T.ev (plOf B N w) Y.C Y.now, May B.t B.s B.so N Y.L x) ∧ Eff B N Y w (T.cells (plOf B N w) Y.C Y.now) ∧
        (∀ p, T.step (plOf B N w) Y.C Y.now z = .pu p → p.ph = 0 → PA B.so (2 * N + B.T) (T.cells (plOf B N w) Y.C Y.now) p) ∧
        (∀ g a, T.step (plOf B N w) Y.C Y.now z = .ge g → g.ph = 0 → g.ta = some a → TA N (T.cells (plOf B N w) Y.C Y.now) (Y.L ++ T.ev (plOf B N w) Y.C Y.now) a ∧ (a.next = 2 → a.who = w ∧ 0 ≤ a.slot ∧ Y.C.getD a.slot.toNat 0 % 4 = 1)) := by
      cases T with
      | pu k =>
        obtain ⟨q1, q2, q3⟩ := h.putStep ho hc hT hl hfit hw Y.now
        exact ⟨q1, q2, fun p hp h0 => by cases hp; exact q3 h0, (fun g a hg => by cases hg)⟩
      | ge k =>
        obtain ⟨q1, q2, q3⟩ := h.getStep ho hc hT hl hw ha
        exact ⟨q1, q2, (fun p hp => by cases hp), fun g a hg h0 hga => by cases hg; exact q3 a hga h0⟩
    obtain ⟨m1, m2, m3, m4⟩ := hparts
    refine ⟨?_, ?_, fun v p j hp => ?_, fun v g j a hg hga => ?_, fun v g j a hg hga hn v2 p j2 hp hs => ?_⟩
    · show ∀ q : Nat, q < (T.cells (plOf B N w) Y.C Y.now).length → lastE (Y.L ++ T.ev (plOf B N w) Y.C Y.now) (q : Int) = (T.cells (plOf B N w) Y.C Y.now).getD q 0
      exact last_noted hnot h.cells
    · show AllMay B.t B.s B.so N (Y.L ++ T.ev (plOf B N w) Y.C Y.now)
      rcases hnot with ⟨h0, _⟩ | ⟨y, hy, _⟩
      · rw [h0, List.append_nil]
        exact h.all
      · rw [hy] at m1 ⊢
        exact h.all.snoc (m1 y (List.mem_singleton.2 rfl))
    · show PA B.so (2 * N + B.T) (T.cells (plOf B N w) Y.C Y.now) p
      rcases astep_ts hp with ⟨rfl, hq, h0⟩ | ⟨hv, hq⟩
      · exact m3 p hq.symm (by rw [← hq] at h0; exact h0)
      · exact m2.puts h ho hc hT hl hwT hv hq
    · show TA N (T.cells (plOf B N w) Y.C Y.now) (Y.L ++ T.ev (plOf B N w) Y.C Y.now) a
      rcases astep_ts hg with ⟨rfl, hq, h0⟩ | ⟨hv, hq⟩
      · exact (m4 g a hq.symm (by rw [← hq] at h0; exact h0) hga).1
      · exact m2.gets h ho hc hT hl hwT hfit0 hEw hv hq hga hE1
    · rcases astep_ts hg with ⟨rfl, hq, h0⟩ | ⟨hv, hq⟩
      · obtain ⟨_, hlast⟩ := m4 g a hq.symm (by rw [← hq] at h0; exact h0) hga
        obtain ⟨c1, c2, c3⟩ := hlast hn
        rcases astep_ts hp with ⟨rfl, hq2, _⟩ | ⟨hv2, hq2⟩
        · rw [← hq] at hq2
          cases hq2
        · rintro ⟨r1, r2⟩
          have := ((h.put v2 p j2 hq2).word r1 (by
            rcases r2 with r2 | r2
            · exact .inl r2
            · exact .inr (by omega))).1
          rw [hs] at this
          exact this c3
      · rcases astep_ts hp with ⟨rfl, hq2, _⟩ | ⟨hv2, hq2⟩
        · cases T with
          | pu k =>
            cases hq2
            exact h.putCross ho hc hT hl hw Y.now hq hga hn hs
          | ge k => cases hq2
        · exact h.cross v g j a hq hga hn v2 p j2 hq2 hs
end
end Go.Proofs.YtpfjommkjkbonaaGreat
