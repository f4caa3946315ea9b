/-
  A yard as data: its cells, its threads' tasks, its deeds, its time; what is done to it, and what is known of it then, whatever is done in whatever order. No Go. No condition.
-/
import Derived.Test.YtpfjommkjkbonaaGreatATask
import Derived.Test.YtpfjommkjkbonaaGreatDeedBase
namespace Go.Proofs.YtpfjommkjkbonaaGreat
open Go.RowKit
set_option linter.unusedVariables false

/-- A yard: of each thread its task and that one's deed. -/
structure Yd where
  C : List Int
  L : List Ev
  now : Int
  moves : Nat
  ts : List (Option (Wk × Nat))
  ds : List Dd

def yMax : Int := 1099511627776
/-- A call that is begun. -/
def Yd.call (Y : Yd) (w : Nat) (kd e x s : Int) (T : Wk) : Yd :=
  { Y with moves := Y.moves + 1, ts := Y.ts.set w (some (T, Y.ds.length)), ds := Y.ds ++ [⟨w, kd, e, x, s, Y.moves, -1, false, 0, 0, 0⟩] }
/-- A deed that is over. -/
def Dd.over (d : Dd) (m : Nat) (T : Wk) : Dd := if T.ph = 1 then { d with till := m, ok := true, v := (match T with | .pu _ => 0 | .ge k => k.val), lo := (match T with | .pu k => k.tk.lo | .ge _ => 0), hi := (match T with | .pu k => k.tk.hi | .ge _ => 0) } else { d with till := m }
def Yd.tick (Y : Yd) : Int := if Y.now < yMax then Y.now + 1 else yMax
/-- A step of w's task T, of deed i. -/
def Yd.step (Y : Yd) (P : Pl) (w : Nat) (T : Wk) (i : Nat) (z : Int) : Yd :=
  ⟨T.cells P Y.C Y.now, Y.L ++ T.ev P Y.C Y.now, Y.tick, Y.moves + 1,
    if (T.step P Y.C Y.now z).ph = 0 then Y.ts.set w (some (T.step P Y.C Y.now z, i)) else Y.ts.set w none,
    if (T.step P Y.C Y.now z).ph = 0 then Y.ds else Y.ds.modify i (fun d => d.over Y.moves (T.step P Y.C Y.now z))⟩
def Yd.pass (Y : Yd) (n : Int) : Yd := { Y with now := if n > yMax - Y.now then yMax else Y.now + n }

/-- What is done to a yard. -/
inductive YMv (pl : Nat → Pl) (Y : Yd) : Yd → Prop
  | rest : YMv pl Y Y
  | call (w : Nat) (kd e x s : Int) (T : Wk) (hw : Y.ts[w]? = some none) (hk : T.Ok (pl w) Y.C) (h0 : T.few 0) (hb : T.by' w) (hp : T.ph = 0) (hr : (kd = 0 ∨ kd = 1) ∧ (e = 0 ∨ e = 1)) : YMv pl Y (Y.call w kd e x s T)
  | step (w : Nat) (T : Wk) (i : Nat) (z : Int) (hw : Y.ts[w]? = some (some (T, i))) (ha : T.ask Y.C z) : YMv pl Y (Y.step (pl w) w T i z)
  | pass (n : Int) (hn : 0 < n) : YMv pl Y (Y.pass n)

/-- What is known of a yard of t threads to which n things were done. -/
structure YOk (pl : Nat → Pl) (t n : Nat) (Y : Yd) : Prop where
  len : Y.ts.length = t
  task : ∀ (w : Nat) (T : Wk) (i : Nat), Y.ts[w]? = some (some (T, i)) → T.Ok (pl w) Y.C ∧ T.few n ∧ T.by' w ∧ T.ph = 0 ∧ ∃ d : Dd, Y.ds[i]? = some d ∧ d.who = w ∧ d.till = -1 ∧ d.ok = false ∧ d.v = 0 ∧ d.lo = 0 ∧ d.hi = 0
  now0 : 0 ≤ Y.now
  now1 : Y.now ≤ yMax
  deed : ∀ (i : Nat) (d : Dd), Y.ds[i]? = some d → (∃ w : Nat, d.who = w ∧ w < t ∧ (d.till = -1 → ∃ T, Y.ts[w]? = some (some (T, i)))) ∧ 0 ≤ d.fr ∧ d.fr < Y.moves ∧ (d.till ≠ -1 → d.fr < d.till ∧ d.till < Y.moves)
  order : ∀ (i j : Nat) (d d' : Dd), i < j → Y.ds[i]? = some d → Y.ds[j]? = some d' → d.fr < d'.fr ∧ (d.who = d'.who → d.till ≠ -1 ∧ d.till < d'.fr)
  most : Y.moves ≤ n
  nds : Y.ds.length ≤ Y.moves
  nL : Y.L.length ≤ Y.moves

section
variable {pl : Nat → Pl} {t n : Nat} {Y Y' : Yd}
theorem YOk.start (C : List Int) (t : Nat) : YOk pl t 0 ⟨C, [], 0, 0, List.replicate t none, []⟩ :=
  ⟨List.length_replicate, (fun w T i h => by
    rw [List.getElem?_replicate] at h
    split at h <;> cases h), Int.le_refl _, by show (0 : Int) ≤ yMax; decide, (fun i d h => by simp at h), (fun i j d d' _ h => by simp at h), Nat.le_refl _, Nat.le_refl _, Nat.le_refl _⟩

theorem Dd.over_same (d : Dd) (m : Nat) (T : Wk) : (d.over m T).who = d.who ∧ (d.over m T).kd = d.kd ∧ (d.over m T).e = d.e ∧ (d.over m T).x = d.x ∧ (d.over m T).s = d.s ∧ (d.over m T).fr = d.fr ∧ (d.over m T).till = m := by
  unfold Dd.over
  split <;> exact ⟨rfl, rfl, rfl, rfl, rfl, rfl, rfl⟩
theorem Yd.tick_fit (h0 : 0 ≤ Y.now) (h1 : Y.now ≤ yMax) : 0 ≤ Y.tick ∧ Y.tick ≤ yMax := by
  have e : yMax = 1099511627776 := rfl
  unfold Yd.tick
  split <;> omega
theorem ymod_same {ds : List Dd} {i : Nat} {f : Dd → Dd} {d : Dd} (h : ds[i]? = some d) : (ds.modify i f)[i]? = some (f d) := by
  rw [List.getElem?_modify, h]
  simp
theorem ymod_ne {ds : List Dd} {i j : Nat} {f : Dd → Dd} (e : i ≠ j) : (ds.modify i f)[j]? = ds[j]? := by
  rw [List.getElem?_modify]
  cases ds[j]? <;> simp [e]
theorem ymod {ds : List Dd} {i j : Nat} {f : Dd → Dd} {d : Dd} (h : (ds.modify i f)[j]? = some d) : (i = j ∧ ∃ d0, ds[j]? = some d0 ∧ d = f d0) ∨ (i ≠ j ∧ ds[j]? = some d) := by
  by_cases e : i = j
  · subst e
    cases hd : ds[i]? with
    | none =>
      rw [List.getElem?_modify, hd] at h
      cases h
    | some d0 =>
      rw [ymod_same hd] at h
      cases h
      exact .inl ⟨rfl, d0, rfl, rfl⟩
  · rw [ymod_ne e] at h
    exact .inr ⟨e, h⟩
theorem yset {α : Type} {l : List α} {i j : Nat} {a b : α} (h : (l.set i a)[j]? = some b) : (i = j ∧ b = a ∧ j < l.length) ∨ (i ≠ j ∧ l[j]? = some b) := by
  rw [List.getElem?_set] at h
  split at h
  · rename_i e
    split at h
    · rename_i hl
      cases h
      exact .inl ⟨e, rfl, by omega⟩
    · cases h
  · rename_i e
    exact .inr ⟨e, h⟩
theorem ysnoc {α : Type} {l : List α} {j : Nat} {a b : α} (h : (l ++ [a])[j]? = some b) : (j = l.length ∧ b = a) ∨ (j < l.length ∧ l[j]? = some b) := by
  rcases Nat.lt_or_ge j l.length with hj | hj
  · rw [List.getElem?_append_left hj] at h
    exact .inr ⟨hj, h⟩
  · rw [List.getElem?_append_right hj] at h
    rcases (by omega : j - l.length = 0 ∨ 0 < j - l.length) with e | e
    · rw [e] at h
      cases h
      exact .inl ⟨by omega, rfl⟩
    · rw [List.getElem?_eq_none (by show 1 ≤ _; omega)] at h
      cases h

/-- What is right stays right. -/
theorem YOk.next (h : YOk pl t n Y) (hm : YMv pl Y Y') (hn : n < 1000000) (hf : ∀ j, 0 ≤ Y.C.getD j 0 ∧ Y.C.getD j 0 ≤ 18446744073709551615) : YOk pl t (n + 1) Y' := by
  obtain ⟨len, task, now0, now1, deed, order, most, nds, nL⟩ := id h
  cases hm with
  | rest => exact ⟨len, fun w T i hw => by obtain ⟨a, b, c⟩ := task w T i hw; exact ⟨a, b.mono (Nat.le_succ _), c⟩, now0, now1, deed, order, by omega, nds, nL⟩
  | pass k hk =>
    refine ⟨len, fun w T i hw => by obtain ⟨a, b, c⟩ := task w T i hw; exact ⟨a, b.mono (Nat.le_succ _), c⟩, ?_, ?_, deed, order, by show Y.moves ≤ n + 1; omega, nds, nL⟩
    · show (0 : Int) ≤ if k > yMax - Y.now then yMax else Y.now + k
      have e : yMax = 1099511627776 := rfl
      split <;> omega
    · show (if k > yMax - Y.now then yMax else Y.now + k) ≤ yMax
      split <;> omega
  | call w kd e x s T hw hk h0 hb hp hr =>
    have hwl : w < Y.ts.length := (List.getElem?_eq_some_iff.1 hw).1
    refine ⟨by show (Y.ts.set w _).length = t; rw [List.length_set]; exact len, fun w' T' i hw' => ?_, now0, now1, fun i d hd => ?_, fun i j d d' hij hd hd' => ?_, by show Y.moves + 1 ≤ n + 1; omega, by show (Y.ds ++ [_]).length ≤ Y.moves + 1; rw [List.length_append, List.length_singleton]; omega, by show Y.L.length ≤ Y.moves + 1; omega⟩
    · rcases yset hw' with ⟨rfl, he, _⟩ | ⟨hne, hw2⟩
      · cases he
        exact ⟨hk, h0.mono (Nat.zero_le _), hb, hp, _, by show (Y.ds ++ [_])[Y.ds.length]? = _; rw [List.getElem?_append_right (Nat.le_refl _), Nat.sub_self]; rfl, rfl, rfl, rfl, rfl, rfl, rfl⟩
      · obtain ⟨a, b, c, d0, d, hd, hd2⟩ := task w' T' i hw2
        exact ⟨a, b.mono (Nat.le_succ _), c, d0, d, by show (Y.ds ++ [_])[i]? = _; rw [List.getElem?_append_left (List.getElem?_eq_some_iff.1 hd).1]; exact hd, hd2⟩
    · rcases ysnoc hd with ⟨rfl, rfl⟩ | ⟨hi, hd⟩
      · exact ⟨⟨w, rfl, by omega, fun _ => ⟨T, List.getElem?_set_self hwl⟩⟩, by show (0 : Int) ≤ (Y.moves : Int); omega, by show (Y.moves : Int) < ((Y.moves + 1 : Nat) : Int); omega, fun h => absurd rfl h⟩
      · obtain ⟨⟨w', g1, g2, g3⟩, g4, g5, g6⟩ := deed i d hd
        refine ⟨⟨w', g1, g2, fun ht => ?_⟩, g4, by show d.fr < ((Y.moves + 1 : Nat) : Int); omega, fun ht => by have := g6 ht; exact ⟨this.1, by show d.till < ((Y.moves + 1 : Nat) : Int); omega⟩⟩
        obtain ⟨T', hT'⟩ := g3 ht
        refine ⟨T', ?_⟩
        show (Y.ts.set w _)[w']? = _
        rw [List.getElem?_set_ne (fun e => by rw [e] at hw; rw [hw] at hT'; cases hT')]
        exact hT'
    · rcases ysnoc hd' with ⟨rfl, rfl⟩ | ⟨hj, hd'⟩
      · rcases ysnoc hd with ⟨rfl, rfl⟩ | ⟨hi, hd⟩
        · omega
        · obtain ⟨⟨w', g1, g2, g3⟩, g4, g5, g6⟩ := deed i d hd
          refine ⟨g5, fun he => ?_⟩
          have hww : w' = w := by
            have he' : d.who = (w : Int) := he
            omega
          have ht : d.till ≠ -1 := fun ht => by
            obtain ⟨T', hT'⟩ := g3 ht
            rw [hww, hw] at hT'
            cases hT'
          exact ⟨ht, (g6 ht).2⟩
      · rcases ysnoc hd with ⟨rfl, rfl⟩ | ⟨hi, hd⟩
        · omega
        · exact order i j d d' hij hd hd'
  | step w T i z hw ha =>
    have hwl : w < Y.ts.length := (List.getElem?_eq_some_iff.1 hw).1
    obtain ⟨k1, k2, k3, k4, d0, k5, k6, k7⟩ := task w T i hw
    obtain ⟨o1, o2⟩ := k1.next k2 hn ha now0 hf
    have o3 : (T.step (pl w) Y.C Y.now z).by' w := Wk.by_step k3
    have hcl : (T.cells (pl w) Y.C Y.now).length = Y.C.length := Wk.cells_len
    have hev : (T.ev (pl w) Y.C Y.now).length ≤ 1 := Wk.ev_le
    have htick := Yd.tick_fit now0 now1
    have huni : ∀ w' T', Y.ts[w']? = some (some (T', i)) → w' = w := fun w' T' h' => by
      obtain ⟨_, _, _, _, d', g1, g2, _⟩ := task w' T' i h'
      rw [k5] at g1
      cases g1
      omega
    unfold Yd.step
    generalize T.step (pl w) Y.C Y.now z = T2 at o1 o2 o3 ⊢
    generalize T.cells (pl w) Y.C Y.now = C2 at o1 hcl ⊢
    generalize T.ev (pl w) Y.C Y.now = E at hev ⊢
    have hL : (Y.L ++ E).length ≤ Y.moves + 1 := by rw [List.length_append]; omega
    by_cases hp : T2.ph = 0
    · rw [if_pos hp, if_pos hp]
      refine ⟨by show (Y.ts.set w _).length = t; rw [List.length_set]; exact len, fun w' T' i' hw' => ?_, htick.1, htick.2, fun i' d hd => ?_, order, by show Y.moves + 1 ≤ n + 1; omega, by show Y.ds.length ≤ Y.moves + 1; omega, hL⟩
      · rcases yset hw' with ⟨rfl, he, _⟩ | ⟨hne, hw2⟩
        · cases he
          exact ⟨o1, o2, o3, hp, d0, k5, k6, k7⟩
        · obtain ⟨a, b, c⟩ := task w' T' i' hw2
          exact ⟨a.cells hcl, b.mono (Nat.le_succ _), c⟩
      · obtain ⟨⟨w', g1, g2, g3⟩, g4, g5, g6⟩ := deed i' d hd
        refine ⟨⟨w', g1, g2, fun ht => ?_⟩, g4, by show d.fr < ((Y.moves + 1 : Nat) : Int); omega, fun ht => by have := g6 ht; exact ⟨this.1, by show d.till < ((Y.moves + 1 : Nat) : Int); omega⟩⟩
        obtain ⟨T', hT'⟩ := g3 ht
        by_cases hww : w = w'
        · subst hww
          rw [hw] at hT'
          cases hT'
          exact ⟨T2, List.getElem?_set_self hwl⟩
        · exact ⟨T', by show (Y.ts.set w _)[w']? = _; rw [List.getElem?_set_ne hww]; exact hT'⟩
    · rw [if_neg hp, if_neg hp]
      refine ⟨by show (Y.ts.set w _).length = t; rw [List.length_set]; exact len, fun w' T' i' hw' => ?_, htick.1, htick.2, fun i' d hd => ?_, fun i1 j1 d d' hij hd hd' => ?_, by show Y.moves + 1 ≤ n + 1; omega, by show (Y.ds.modify i _).length ≤ Y.moves + 1; rw [List.length_modify]; omega, hL⟩
      · rcases yset hw' with ⟨rfl, he, _⟩ | ⟨hne, hw2⟩
        · cases he
        · obtain ⟨a, b, c, c2, d, hd, hd2⟩ := task w' T' i' hw2
          have hii : i ≠ i' := fun e => by
            subst e
            exact hne (huni w' T' hw2).symm
          exact ⟨a.cells hcl, b.mono (Nat.le_succ _), c, c2, d, by show (Y.ds.modify i _)[i']? = _; rw [ymod_ne hii]; exact hd, hd2⟩
      · rcases ymod hd with ⟨rfl, d1, hd1, rfl⟩ | ⟨hne, hd⟩
        · rw [k5] at hd1
          cases hd1
          obtain ⟨s1, _, _, _, _, s6, s7⟩ := Dd.over_same d0 Y.moves T2
          obtain ⟨⟨w', g1, g2, g3⟩, g4, g5, g6⟩ := deed i d0 k5
          refine ⟨⟨w', s1.trans g1, g2, fun ht => ?_⟩, by rw [s6]; exact g4, by rw [s6]; show d0.fr < ((Y.moves + 1 : Nat) : Int); omega, fun _ => ?_⟩
          · rw [s7] at ht
            omega
          · rw [s6, s7]
            exact ⟨g5, by show (Y.moves : Int) < ((Y.moves + 1 : Nat) : Int); omega⟩
        · obtain ⟨⟨w', g1, g2, g3⟩, g4, g5, g6⟩ := deed i' d hd
          refine ⟨⟨w', g1, g2, fun ht => ?_⟩, g4, by show d.fr < ((Y.moves + 1 : Nat) : Int); omega, fun ht => by have := g6 ht; exact ⟨this.1, by show d.till < ((Y.moves + 1 : Nat) : Int); omega⟩⟩
          obtain ⟨T', hT'⟩ := g3 ht
          by_cases hww : w = w'
          · subst hww
            rw [hw] at hT'
            cases hT'
            exact absurd rfl hne
          · exact ⟨T', by show (Y.ts.set w _)[w']? = _; rw [List.getElem?_set_ne hww]; exact hT'⟩
      · have hset : ∀ {j2 : Nat} {d2 : Dd}, (Y.ds.modify i (fun d => d.over Y.moves T2))[j2]? = some d2 → ∃ d3, Y.ds[j2]? = some d3 ∧ d2.fr = d3.fr ∧ d2.who = d3.who ∧ (d2.till = d3.till ∨ (j2 = i ∧ d3.till = -1)) := fun {j2 d2} h2 => by
          rcases ymod h2 with ⟨rfl, d1, hd1, rfl⟩ | ⟨hne, h3⟩
          · obtain ⟨s1, _, _, _, _, s6, s7⟩ := Dd.over_same d1 Y.moves T2
            refine ⟨d1, hd1, s6, s1, .inr ⟨rfl, ?_⟩⟩
            rw [k5] at hd1
            cases hd1
            exact k7.1
          · exact ⟨d2, h3, rfl, rfl, .inl rfl⟩
        obtain ⟨e1, f1, f2, f3, f4⟩ := hset hd
        obtain ⟨e2, p1, p2, p3, p4⟩ := hset hd'
        obtain ⟨q1, q2⟩ := order i1 j1 e1 e2 hij f1 p1
        refine ⟨by rw [f2, p2]; exact q1, fun he => ?_⟩
        obtain ⟨r1, r2⟩ := q2 (by rw [← f3, ← p3]; exact he)
        rcases f4 with f4 | ⟨_, f4⟩
        · rw [f4, p2]
          exact ⟨r1, r2⟩
        · exact absurd f4 r1

/-- What is noted by it. -/
theorem YMv.noted (h : YOk pl t n Y) (hm : YMv pl Y Y') : ∃ (w : Nat) (E : List Ev), Noted w Y.C Y'.C E ∧ Y'.L = Y.L ++ E ∧ (E ≠ [] → ∃ T i z, Y.ts[w]? = some (some (T, i)) ∧ Y' = Y.step (pl w) w T i z) := by
  cases hm with
  | rest => exact ⟨0, [], noted_none, (List.append_nil _).symm, fun h => absurd rfl h⟩
  | pass k hk => exact ⟨0, [], noted_none, (List.append_nil _).symm, fun h => absurd rfl h⟩
  | call w kd e x s T hw hk h0 hb hp hr => exact ⟨0, [], noted_none, (List.append_nil _).symm, fun h => absurd rfl h⟩
  | step w T i z hw ha =>
    obtain ⟨k1, k2, k3, k4, d0, k5, k6, k7⟩ := h.task w T i hw
    exact ⟨w, _, Wk.noted k1 k3, rfl, fun _ => ⟨T, i, z, hw, rfl⟩⟩

/-- What was over stays as it was; what was begun stays begun; what was noted stays noted. -/
structure YLater (Y Y' : Yd) : Prop where
  deed : ∀ (i : Nat) (d : Dd), Y.ds[i]? = some d → ∃ d', Y'.ds[i]? = some d' ∧ d'.who = d.who ∧ d'.kd = d.kd ∧ d'.e = d.e ∧ d'.x = d.x ∧ d'.s = d.s ∧ d'.fr = d.fr ∧ (d.till ≠ -1 → d' = d)
  log : ∃ E, Y'.L = Y.L ++ E
theorem YLater.refl (Y : Yd) : YLater Y Y := ⟨fun i d h => ⟨d, h, rfl, rfl, rfl, rfl, rfl, rfl, fun _ => rfl⟩, [], (List.append_nil _).symm⟩
theorem YLater.trans {A B D : Yd} (h : YLater A B) (k : YLater B D) : YLater A D := by
  obtain ⟨E, hE⟩ := h.log
  obtain ⟨F, hF⟩ := k.log
  refine ⟨fun i d hd => ?_, E ++ F, by rw [hF, hE, List.append_assoc]⟩
  obtain ⟨d', a, b1, b2, b3, b4, b5, b6, b7⟩ := h.deed i d hd
  obtain ⟨d2, a', c1, c2, c3, c4, c5, c6, c7⟩ := k.deed i d' a
  exact ⟨d2, a', c1.trans b1, c2.trans b2, c3.trans b3, c4.trans b4, c5.trans b5, c6.trans b6, fun ht => by have e := b7 ht; rw [c7 (by rw [e]; exact ht), e]⟩
theorem YMv.later (h : YOk pl t n Y) (hm : YMv pl Y Y') : YLater Y Y' := by
  obtain ⟨w0, E, _, hE, _⟩ := hm.noted h
  refine ⟨fun i' d hd => ?_, E, hE⟩
  cases hm with
  | rest => exact ⟨d, hd, rfl, rfl, rfl, rfl, rfl, rfl, fun _ => rfl⟩
  | pass k hk => exact ⟨d, hd, rfl, rfl, rfl, rfl, rfl, rfl, fun _ => rfl⟩
  | call w kd e x s T hw hk h0 hb hp hr => exact ⟨d, by show (Y.ds ++ [_])[i']? = _; rw [List.getElem?_append_left (List.getElem?_eq_some_iff.1 hd).1]; exact hd, rfl, rfl, rfl, rfl, rfl, rfl, fun _ => rfl⟩
  | step w T i z hw ha =>
    obtain ⟨k1, k2, k3, k4, d0, k5, k6, k7⟩ := h.task w T i hw
    unfold Yd.step
    by_cases hp : (T.step (pl w) Y.C Y.now z).ph = 0
    · rw [if_pos hp, if_pos hp]
      exact ⟨d, hd, rfl, rfl, rfl, rfl, rfl, rfl, fun _ => rfl⟩
    · rw [if_neg hp, if_neg hp]
      show ∃ d', (Y.ds.modify i _)[i']? = some d' ∧ _
      by_cases e : i = i'
      · subst e
        rw [k5] at hd
        obtain rfl : d0 = d := by injection hd
        obtain ⟨s1, s2, s3, s4, s5, s6, _⟩ := Dd.over_same d0 Y.moves (T.step (pl w) Y.C Y.now z)
        exact ⟨_, ymod_same k5, s1, s2, s3, s4, s5, s6, fun ht => absurd k7.1 ht⟩
      · exact ⟨d, by rw [ymod_ne e]; exact hd, rfl, rfl, rfl, rfl, rfl, rfl, fun _ => rfl⟩
end

end Go.Proofs.YtpfjommkjkbonaaGreat
