/- Contracts and plain lemmas that these laws need. No condition. -/
import Derived.Deep.DeepCutAuto
import Derived.Laws.CopyOwn
import Derived.Lib.SlKeysI
import Derived.Maps.OwnOps
import Derived.Maps.OwnSet
import Derived.Maps.RangeWalk
import Derived.Test.YtpfjommkjkbonaaGreatQC1
import Derived.Test.YtpfjommkjkbonaaGreatQC9
import Derived.Test.YtpfjommkjkbonaaGreatQC10
import Derived.Test.YtpfjommkjkbonaaGreatQC11
namespace Go.Proofs.YtpfjommkjkbonaaGreat
set_option linter.unusedVariables false
set_option maxHeartbeats 8000000
set_option maxRecDepth 100000
section
open Go.RowKit
def BA : YB := ⟨0, 0, 0, 0, (2 : Nat), 2, 0, 0, 2⟩
def YA : Yd := ((yd0 4 2).call 0 0 1 5 0 (wkB BA 4 0 false 1 5 0)).call 1 0 0 6 0 (wkB BA 4 1 false 0 6 0)
theorem lA_8 : (lookF BA 4 (fun _ => 0) YA 8).1.ts = [none, none] ∧ (lookF BA 4 (fun _ => 0) YA 8).2 = 8 ∧ (lookF BA 4 (fun _ => 0) YA 8).1.moves = 10 ∧ ∃ d0 d1, (lookF BA 4 (fun _ => 0) YA 8).1.ds = [d0, d1] ∧ (d0.kd = 0 ∧ d0.e = 1 ∧ d0.x = 5 ∧ d0.ok = true ∧ d0.till = 8) ∧ (d1.kd = 0 ∧ d1.e = 0 ∧ d1.x = 6 ∧ d1.ok = true ∧ d1.till = 9) :=
 ⟨rfl, rfl, rfl, _, _, rfl, ⟨rfl, rfl, rfl, rfl, rfl⟩, ⟨rfl, rfl, rfl, rfl, rfl⟩⟩
theorem lA_ts : ∀ j, j < 8 → ∃ (a : Option (Wk × Nat)) (k : Pu) (i : Nat), (lookF BA 4 (fun _ => 0) YA j).1.ts = [a, some (.pu k, i)] ∧ ∀ T i', a = some (T, i') → ∃ k', T = .pu k'
 | 0, _ => ⟨_, _, _, rfl, fun T i' h => by cases h; exact ⟨_, rfl⟩⟩
 | 1, _ => ⟨_, _, _, rfl, fun T i' h => by cases h; exact ⟨_, rfl⟩⟩
 | 2, _ => ⟨_, _, _, rfl, fun T i' h => by cases h; exact ⟨_, rfl⟩⟩
 | 3, _ => ⟨_, _, _, rfl, fun T i' h => by cases h; exact ⟨_, rfl⟩⟩
 | 4, _ => ⟨_, _, _, rfl, fun T i' h => by cases h; exact ⟨_, rfl⟩⟩
 | 5, _ => ⟨_, _, _, rfl, fun T i' h => by cases h; exact ⟨_, rfl⟩⟩
 | 6, _ => ⟨_, _, _, rfl, fun T i' h => by cases h; exact ⟨_, rfl⟩⟩
 | 7, _ => ⟨_, _, _, rfl, fun T i' h => by cases h⟩
 | j + 8, h => by omega
theorem finA {j s : Nat} {Y : Yd} (h : Tick BA 4 YA j Y s) (hi : ∀ k, k < 2 → Y.ts[k]? = some none) : s = 8 ∧ Y = (lookF BA 4 (fun _ => 0) YA 8).1 := by
 have h8 : ∀ a, a ∈ (lookF BA 4 (fun _ => 0) YA 8).1.ts → a = none := fun a ha => by
  rw [lA_8.1] at ha
  simpa using ha
 have hst := zES h8
 have hl := h.look (z := fun _ => 0) (fun j T i z' hk _ => by
  rcases Nat.lt_or_ge j 8 with hj | hj
  ·obtain ⟨a, k, q, e, hp⟩ := lA_ts j hj
   rw [e] at hk
   rcases (show j % 2 = 0 ∨ j % 2 = 1 by omega) with e2 | e2
   ·have hk' : [a, some (Wk.pu k, q)][j % 2]? = some (some (T, i)) := hk
    rw [e2] at hk'
    have hk2 : a = some (T, i) := by simpa using hk'
    obtain ⟨k', rfl⟩ := hp T i hk2
    rfl
   ·have hk' : [a, some (Wk.pu k, q)][j % 2]? = some (some (T, i)) := hk
    rw [e2] at hk'
    cases hk'
    rfl
  ·obtain ⟨k, rfl⟩ : ∃ k, j = 8 + k := ⟨j - 8, by omega⟩
   rw [hst] at hk
   have := h8 _ (List.mem_of_getElem? hk)
   cases this)
 rcases Nat.lt_or_ge j 8 with hj | hj
 ·obtain ⟨a, k, q, e, _⟩ := lA_ts j hj
  rw [hl] at e
  have := hi 1 (by decide)
  have e' : Y.ts = _ := e
  rw [e'] at this
  cases this
 ·obtain ⟨k, rfl⟩ : ∃ k, j = 8 + k := ⟨j - 8, by omega⟩
  rw [hst] at hl
  exact ⟨(congrArg Prod.snd hl).symm.trans lA_8.2.1, (congrArg Prod.fst hl).symm⟩
theorem zEe {B : YB} {N j s : Nat} {Y0 Y : Yd} (h : Tick B N Y0 j Y s) : Y.ds.length = Y0.ds.length := by
 induction h with
 | zero => rfl
 | skip h hn ih => exact ih
 | @step j Y s h T i z hk ha ih =>
  rw [← ih]
  show (if _ then Y.ds else Y.ds.modify i _).length = _
  split
  ·rfl
  ·rw [List.length_modify]
theorem yA_of {yb ytb p c : Nat} {Yf : Nat → Yd} {An : List Int} (h : PTr ⟨yb, ytb, p, c, (2 : Nat), 2, 0, 0, 2⟩ 4 [⟨0, 0, 0, 1, 5, 0, 0⟩, ⟨0, 1, 0, 0, 6, 0, 0⟩] Yf An) : Yf 2 = YA := by
 obtain ⟨a, ha⟩ : ∃ a, An[0]? = some a := ⟨_, List.getElem?_eq_getElem (by rw [h.len]; decide)⟩
 obtain ⟨a', ha'⟩ : ∃ a, An[1]? = some a := ⟨_, List.getElem?_eq_getElem (by rw [h.len]; decide)⟩
 have h1 := h.at' 0 _ a rfl ha
 have h2 := h.at' 1 _ a' rfl ha'
 have hz : Yf 0 = yd0 4 2 := h.tr.zero
 rw [hz] at h1
 have e1 := (zGC (k := 0) (e := 1) (x := 5) h1 (by show (0 : Int) < (2 : Nat); decide) (.inr rfl) rfl).2
 have h2' : PDo _ 4 ⟨0, 1, 0, 0, 6, 0, 0⟩ (Yf 1) (Yf 2) a' := h2
 have e1' : Yf 1 = _ := e1
 rw [e1'] at h2'
 exact (zGC (k := 1) (e := 0) (x := 6) h2' (by show (1 : Int) < (2 : Nat); decide) (.inl rfl) rfl).2
theorem aliveV {B : YB} {Yg : Nat → Yd} {m : Nat} (hs : B.s = 2) (ht : YTr B 4 Yg m) {n0 : Nat} (hn0 : n0 < m) (h0 : Yg n0 = (lookF BA 4 (fun _ => 0) YA 8).1) {T0 : Wk} (h1 : Yg (n0 + 1) = (Yg n0).call 0 1 0 0 0 T0) (hl : (Yg m).ds.length = 3) (hi : ∀ k, k < B.T → (Yg m).ts[k]? = some none) :
  ∃ d0 d1 d2, (Yg m).ds = [d0, d1, d2] ∧ d2.ok = true ∧ d2.v = 6 := by
 obtain ⟨_, _, hmv, d0, d1, hds, p0, p1⟩ := lA_8
 have hA := (ht.all m (Nat.le_refl _)).ok
 have L0 := ht.later (a := n0) (b := m) (by omega) (Nat.le_refl _)
 have L1 := ht.later (a := n0 + 1) (b := m) (by omega) (Nat.le_refl _)
 have g0 : (Yg m).ds[0]? = some d0 := by
  obtain ⟨d', a, _, _, _, _, _, _, b⟩ := L0.deed 0 d0 (by rw [h0, hds]; rfl)
  rw [b (by omega)] at a
  exact a
 have g1 : (Yg m).ds[1]? = some d1 := by
  obtain ⟨d', a, _, _, _, _, _, _, b⟩ := L0.deed 1 d1 (by rw [h0, hds]; rfl)
  rw [b (by omega)] at a
  exact a
 obtain ⟨d2, g2, _, k2, e2, _, _, f2, _⟩ := L1.deed 2 ⟨(0 : Nat), 1, 0, 0, 0, (Yg n0).moves, -1, false, 0, 0, 0⟩ (by
  rw [h1]
  show ((Yg n0).ds ++ [_])[2]? = _
  rw [h0, hds]
  rfl)
 have k2' : d2.kd = 1 := k2
 have e2' : d2.e = 0 := e2
 have f2' : d2.fr = 10 := by
  rw [f2]
  show ((Yg n0).moves : Int) = 10
  rw [h0, hmv]
  rfl
 have over : ∀ (i : Nat) (d : Dd), (Yg m).ds[i]? = some d → 0 ≤ d.till := fun i d hd => by
  obtain ⟨⟨w, _, hw, g3⟩, q0, _, g6⟩ := hA.deed i d hd
  by_cases e : d.till = -1
  ·obtain ⟨T, hT⟩ := g3 e
   rw [hi w hw] at hT
   cases hT
  ·have := (g6 e).1
   omega
 have hall : ∀ (i : Nat) (d : Dd), (Yg m).ds[i]? = some d → (i = 0 ∧ d = d0) ∨ (i = 1 ∧ d = d1) ∨ (i = 2 ∧ d = d2) := fun i d hd => by
  have hlt := (List.getElem?_eq_some_iff.1 hd).1
  rw [hl] at hlt
  match i, hlt, hd with
  | 0, _, hd => rw [g0] at hd; cases hd; exact .inl ⟨rfl, rfl⟩
  | 1, _, hd => rw [g1] at hd; cases hd; exact .inr (.inl ⟨rfl, rfl⟩)
  | 2, _, hd => rw [g2] at hd; cases hd; exact .inr (.inr ⟨rfl, rfl⟩)
 have hx : DOwn (Yg m).ds := fun i i' d d' q q' r r' e => by
  rcases hall i d q with ⟨rfl, rfl⟩ | ⟨rfl, rfl⟩ | ⟨rfl, rfl⟩ <;> rcases hall i' d' q' with ⟨rfl, rfl⟩ | ⟨rfl, rfl⟩ | ⟨rfl, rfl⟩ <;> omega
 have b0 : dBef d0 d2 := ⟨by omega, by omega⟩
 have b1 : dBef d1 d2 := ⟨by omega, by omega⟩
 have ok2 : d2.ok = true := by
  cases hok : d2.ok with
  | true => rfl
  | false =>
   obtain ⟨k, dk, q1, q2, q3, q4, q5⟩ := zEi ht (fun g dg hg _ => over g dg hg) g2 k2' hok g1 p1.1 p1.2.2.2.1 b1
   rcases hall k dk q1 with ⟨_, rfl⟩ | ⟨_, rfl⟩ | ⟨_, rfl⟩
   ·omega
   ·omega
   ·rw [hok] at q3
    cases q3
 refine ⟨d0, d1, d2, ?_, ok2, ?_⟩
 ·refine List.ext_getElem? (fun i => ?_)
  rcases Nat.lt_or_ge i 3 with h | h
  ·match i, h with
   | 0, _ => exact g0
   | 1, _ => exact g1
   | 2, _ => exact g2
  ·rw [List.getElem?_eq_none (by omega), List.getElem?_eq_none (by exact h)]
 ·obtain ⟨i, d, q1, q2, _, q4, _⟩ := zFY ht g2 k2' ok2 (over 2 d2 g2)
  rcases hall i d q1 with ⟨rfl, rfl⟩ | ⟨rfl, rfl⟩ | ⟨_, rfl⟩
  ·exfalso
   refine zIF ht (by decide) hx g2 k2' ok2 (.inl e2') g0 p0.1 q4.symm g1 p1.1 p1.2.2.2.1 b1 (r := -1) ⟨.inl ⟨rfl, fun d hd hh => ?_⟩⟩ (.inl ⟨by decide, fun k dk hk _ => over k dk hk⟩) ?_
   ·obtain ⟨i, hi2⟩ := List.mem_iff_getElem?.1 hd
    have h1 := hh.1
    have h2 := hh.2.2
    rcases hall i d hi2 with ⟨_, rfl⟩ | ⟨_, rfl⟩ | ⟨_, rfl⟩ <;> omega
   ·unfold dNear
    rw [e2', if_pos p1.2.1]
    left
    omega
  ·omega
  ·omega
theorem zAs (w : World) : Calls Tryz.prog 28 #[] w fun r w' => r = .returned (.bool true) ∧ Below w.heap.size w w' := by
 have hn1 := zAA (Below.refl w.heap.size w) (.cells (flatM [⟨0, 0, 0, 1, 5, 0, 0⟩, ⟨0, 1, 0, 0, 6, 0, 0⟩]).toArray 39)
 have hn2 := zAA (Below.refl (w.alloc (.cells (flatM [⟨0, 0, 0, 1, 5, 0, 0⟩, ⟨0, 1, 0, 0, 6, 0, 0⟩]).toArray 39)).heap.size _) (.cells #[.int .i64 2, .int .i64 2, .int .i64 0, .int .i64 0, .slice (some ⟨w.heap.size, 0, none⟩) 2 2] 29)
 have hI : IsAt (w.alloc (.cells (flatM [⟨0, 0, 0, 1, 5, 0, 0⟩, ⟨0, 1, 0, 0, 6, 0, 0⟩]).toArray 39)) (some ⟨w.heap.size, 0, none⟩) (flatM [⟨0, 0, 0, 1, 5, 0, 0⟩, ⟨0, 1, 0, 0, 6, 0, 0⟩]) := fun _ => ⟨w.heap.size, 0, rfl, by simp, fun j u hj => by
  rw [Nat.zero_add]
  exact (IsObj.made w (flatM [⟨0, 0, 0, 1, 5, 0, 0⟩, ⟨0, 1, 0, 0, 6, 0, 0⟩]) 39).at' j u hj⟩
 have HI := zJH (hI.later hn2)
 have HB := zJH (zAB hn1 hn2)
 clear hn1 hn2 hI
 have hg : ∀ m ∈ ([⟨0, 0, 0, 1, 5, 0, 0⟩, ⟨0, 1, 0, 0, 6, 0, 0⟩] : List CM), m.Good := fun m hm => by
  simp only [List.mem_cons, List.not_mem_nil, or_false] at hm
  rcases hm with rfl | rfl
  ·exact ⟨.inl ⟨rfl, by decide, by decide, rfl, .inr rfl, .inl ⟨rfl, rfl⟩⟩, by decide, by decide⟩
  ·exact ⟨.inl ⟨rfl, by decide, by decide, rfl, .inl rfl, .inl ⟨rfl, rfl⟩⟩, by decide, by decide⟩
 have HG := zJH hg
 clear hg
 go_enter Tryz.func28, Tryz.ntmps28
 go_wp2_with fail
 refine (zDQ 2 2 0 0 (some ⟨w.heap.size, 0, none⟩) 2 [⟨0, 0, 0, 1, 5, 0, 0⟩, ⟨0, 1, 0, 0, 6, 0, 0⟩] _ HI.out (fun m hm => (HG.out m hm).2) (by decide)).mono ?_
 rintro r w3 ⟨vE, eE, rfl, hb3, hE⟩
 have hR : rightC 2 2 0 0 = true := by decide
 obtain ⟨rfl, ho⟩ := hE.yes hR (by decide) (fun m hm => (HG.out m hm).1)
 obtain ⟨Ab, cpb, rfl⟩ := zAK ho
 have HB3 := zJH (zAB HB.out hb3)
 have HIB := zJH (IsAt.own ho)
 have hcb := zEn ho
 have HBY := zJH (zDM hR (fun m hm => (HG.out m hm).1))
 have HRR := zJH hR
 obtain ⟨lb, hlb⟩ : ∃ lb, [2, 2, 0, 0] ++ encs [⟨0, 0, 0, 1, 5, 0, 0⟩, ⟨0, 1, 0, 0, 6, 0, 0⟩] = lb := ⟨_, rfl⟩
 have hlen : lb.length ≤ 1000000 := by rw [← hlb]; decide
 rw [hlb] at hcb HIB HBY ⊢
 have HLB := zJH hlb
 clear hb3 ho hE hR hlb HB HI
 go_wp2_with fail
 refine (zC1 Ab lb cpb w3 HIB.out HBY.out hcb hlen).mono ?_
 rintro r w4 (⟨w5, v', n', e', hD', he', rfl, hb⟩ | ⟨T, s', so', d', N, ms', W, lx, yb, ytb, p, c, Yf, An, J, g, hP⟩)
 ·exact absurd (hD'.yes HLB.out.symm HRR.out HG.out (by decide)).1 he'
 obtain ⟨h1, h2, h3, h4, h5, rfl, h7, h8⟩ := hP
 have e1 := HLB.out.trans h1
 simp only [List.cons_append, List.nil_append, List.cons.injEq] at e1
 obtain ⟨e2, rfl, rfl, rfl, e6⟩ := e1
 obtain rfl : T = 2 := by omega
 obtain rfl : N = 4 := by have := h5.eq; omega
 obtain rfl := zDq HG.out h2 e6
 have HP := zJH h8
 have HB4 := zJH (zAB HB3.out h7)
 clear h1 h2 h3 h4 h5 h7 h8 e6 e2 HB3 HIB HBY hcb hlen
 simp only [List.length_cons, List.length_nil]
 go_wp2_with fail
 refine (zCK (n := 2) HP.out.yd HP.out.tr.tr (by decide) (by show 2 ≤ 4; decide) (by decide) (by show (2 : Int) ≤ 4; decide) (by show (0 : Int) ≤ 3; decide)).mono ?_
 rintro r w6 ⟨s, j, l', Y', J', Yg, rfl, hF⟩
 obtain ⟨hs, hY8⟩ := finA (j := j) (s := s) (Y := Y') (by have h := hF.tick.like (B' := BA) ⟨rfl, rfl, rfl, rfl, rfl⟩; rw [yA_of HP.out.tr] at h; exact h) (fun k hk => hF.idle k hk)
 subst hs
 have HF := zJH hF
 have HY8 := zJH hY8
 clear hF hY8 HP
 go_wp2_with fail
 refine (HF.out.yd.call (by decide) 0 (by show 0 < 2; decide) true (kd := 1) rfl 0 0 0 (.inl rfl) (by decide) (by decide)).mono ?_
 rintro r w7 ⟨l7, J7, Y7, hd7, hg7, h7⟩
 rcases h7 with ⟨_, _, a, ha⟩ | ⟨rfl, hq, rfl⟩
 ·have := HF.out.idle 0 (by show 0 < 2; decide)
  rw [this] at ha
  cases ha
 have htr7 := HF.out.tr.callN HF.out.at' (k := 0) true (kd := 1) (e := 0) (x := 0) (s := 0) rfl (.inl rfl) (by decide) (by decide) hq (by decide)
 have HT7 := zJH htr7
 have HD7 := zJH hd7
 clear htr7 hd7 hg7 hq
 go_wp2_with fail
 refine (zCK (n := 11) (Yf := fun i => if i ≤ 2 + 8 then Yg i else Y'.call 0 1 0 0 0 (wkB ⟨yb, ytb, p, c, (2 : Nat), 2, 0, 0, 2⟩ 4 0 true 0 0 0)) HD7.out HT7.out (by decide) (by show 2 ≤ 4; decide) (by decide) (by show (2 : Int) ≤ 4; decide) (by show (0 : Int) ≤ 3; decide)).mono ?_
 rintro r w8 ⟨s2, j2, l8, Y8, J8, Yg8, rfl, hF8⟩
 have hlen8 : (Yg8 (11 + s2)).ds.length = 3 := by
  rw [hF8.at', zEe hF8.tick]
  show (Y'.ds ++ [_]).length = 3
  rw [HY8.out]
  obtain ⟨_, _, _, d0, d1, hds, _⟩ := lA_8
  rw [hds]
  rfl
 obtain ⟨d0, d1, d2, hds, hok, hv⟩ := aliveV (n0 := 10) rfl hF8.tr (by omega) (by rw [hF8.same 10 (by decide)]; show (if 10 ≤ 2 + 8 then Yg 10 else _) = _; rw [if_pos (by decide), ← HY8.out]; exact HF.out.at') (by
  rw [hF8.same 11 (by decide), hF8.same 10 (by decide)]
  show (if 11 ≤ 2 + 8 then _ else _) = Yd.call (if 10 ≤ 2 + 8 then Yg 10 else _) _ _ _ _ _ _
  rw [if_neg (by decide), if_pos (by decide)]
  have e := HF.out.at'
  rw [show Yg 10 = Y' from e]) hlen8 (fun k hk => by rw [hF8.at']; exact hF8.idle k hk)
 rw [hF8.at'] at hds
 have HF8 := zJH hF8
 have HV := zJH (And.intro hds (And.intro hok hv))
 have hdl : Y8.ds.length = 3 := by rw [hds]; rfl
 clear hF8 hlen8 hds hok hv HD7 HT7 HF HY8
 go_wp2_with fail
 refine (HF8.out.yd.deeds (by have := HF8.out.few; omega)).mono ?_
 rintro r w9 ⟨v9, rfl, hrow, hb9⟩
 obtain ⟨A9, cp9, rfl⟩ := zAK hrow
 have HZ := zJH (zAB HB4.out (HF8.out.yd.later hb9).h.below)
 have hat : ∃ b9, A9 = some ⟨b9, 0, none⟩ ∧ AtDd w9 b9 (2 * 11) d2 := by
  rcases hrow.2 with ⟨hv, h0⟩ | ⟨g9, cap', cur, hv, _⟩
  ·omega
  ·cases hv
   exact ⟨g9, rfl, AtDd.row hrow (by rw [HV.out.1]; rfl)⟩
 obtain ⟨b9, rfl, hat⟩ := hat
 have c7 := hat.c7
 have c8 := hat.c8
 rw [HV.out.2.1] at c7
 rw [HV.out.2.2] at c8
 clear hrow hb9 hat
 rw [hdl]
 clear hdl
 go_wp2_with fail
 go_ret
 exact ⟨rfl, HZ.out⟩
end
section
open Go.RowKit
theorem zE5 {T mode most : Int} {Q : CM → Prop} (h0 : ∀ (v : LM) (x : Int), v.base.k = 0 → (v.base.ck = 0 → Q { v.base with who := v.base.who % T, ce := topEnd mode v.base, v := x }) ∧ (v.base.ck ≠ 0 → Q { v.base with who := v.base.who % T, ce := topEnd mode v.base })) (h1 : ∀ v : LM, v.base.k ≠ 0 → v.base.k ≠ 2 → Q { v.base with who := v.base.who % T }) (h2 : ∀ v : LM, v.base.k = 2 → Q v.base) (V : List LM) : ∀ m ∈ (topS T mode most V).2.2, Q m := by
 have key : ∀ (V : List LM) (st : Int × Int × List CM), (∀ m ∈ st.2.2, Q m) → ∀ m ∈ (V.foldl (topOne T mode most) st).2.2, Q m := by
  intro V
  induction V with
  | nil => exact fun st h => h
  | cons v V ih =>
   intro st h
   rw [List.foldl_cons]
   refine ih _ ?_
   obtain ⟨c, p, l⟩ := st
   have more : ∀ x : CM, Q x → ∀ m ∈ l ++ [x], Q m := fun x hx m hm => by
    rcases List.mem_append.1 hm with hm | hm
    ·exact h m hm
    ·rw [List.mem_singleton.1 hm]
     exact hx
   by_cases hk : v.base.k = 0
   ·by_cases hc : c = most
    ·rw [zCe hk hc]
     exact h
    ·by_cases hck : v.base.ck = 0
     ·rw [zCx hk hc hck]
      exact more _ ((h0 v _ hk).1 hck)
     ·rw [zDG hk hc hck]
      exact more _ ((h0 v 0 hk).2 hck)
   ·rcases LM.base_rest hk with ⟨q, _⟩ | ⟨q, _⟩
    ·rw [zCP q]
     exact more _ (h1 v hk (by omega))
    ·rw [zCl q]
     exact more _ (h2 v q)
 exact key V (0, 0, []) (fun m hm => by cases hm)
theorem zDT {T most : Int} (V : List LM) : ∀ m ∈ (topS T 0 most V).2.2, m.k = 0 → m.ce = 1 := by
 have e : ∀ v : LM, topEnd 0 v.base = 1 := fun v => by
  unfold topEnd
  rw [if_pos (by decide), if_neg (by omega)]
 exact zE5 (Q := fun m => m.k = 0 → m.ce = 1) (fun v x hk => ⟨fun _ _ => e v, fun _ _ => e v⟩) (fun v hk _ q => absurd q hk) (fun v hk q => by omega) V
theorem zC6 {T most : Int} (V : List LM) : ∀ m ∈ (topS T 1 most V).2.2, m.k = 0 → m.ce = 1 - m.ck := by
 refine zE5 (Q := fun m => m.k = 0 → m.ce = 1 - m.ck) (fun v x hk => ⟨fun hc _ => ?_, fun hc _ => ?_⟩) (fun v hk _ q => absurd q hk) (fun v hk q => by omega) V
 ·show topEnd 1 v.base = 1 - v.base.ck
  unfold topEnd
  rw [if_pos (by decide), if_neg (by omega), hc]
  rfl
 ·have h1 : v.base.ck = 1 := by
   obtain ⟨_, _, _, _, h | h⟩ := LM.base_beg hk
   ·exact absurd h.1 hc
   ·exact h.1
  show topEnd 1 v.base = 1 - v.base.ck
  unfold topEnd
  rw [if_pos (by decide), if_pos ⟨rfl, h1⟩, h1]
  rfl
structure AsksOk (l : List (Int × Int × Int × Int × Int)) : Prop where
 kind : ∀ a ∈ l, (a.2.1 = 0 ∨ a.2.1 = 1) ∧ (a.2.2.1 = 0 ∨ a.2.2.1 = 1)
 own : l.Pairwise (fun a b => a.2.1 = 0 → b.2.1 = 0 → a.2.2.2.1 < b.2.2.2.1)
theorem AsksOk.dkind {ds : List Dd} (h : AsksOk (ds.map Dd.ask)) {d : Dd} (hd : d ∈ ds) : (d.kd = 0 ∨ d.kd = 1) ∧ (d.e = 0 ∨ d.e = 1) := h.kind _ (List.mem_map_of_mem hd)
theorem TopOk.asks {B : YB} {N : Nat} {S : List CM} {Yf : Nat → Yd} {An : List Int} {T : Int} {st : Int × Int × List CM} {n : Nat} (h : TopOk T st n) (hS : st.2.2 = S) (hP : PTr B N S Yf An) : AsksOk ((Yf S.length).ds.map Dd.ask) := by
 obtain ⟨h1, h2⟩ := hP.deeds S.length (Nat.le_refl _)
 rw [List.take_length] at h1
 refine ⟨fun a ha => ?_, List.Pairwise.sublist h1 ?_⟩
 ·obtain ⟨d, hd, rfl⟩ := List.mem_map.1 ha
  exact h2 d hd
 ·rw [List.pairwise_map]
  have hown := h.own
  rw [hS] at hown
  refine (List.Pairwise.sublist List.filter_sublist hown).imp_of_mem (fun {a b} ha hb hab k1 k2 => ?_)
  have ka : a.k = 0 := of_decide_eq_true (List.mem_filter.1 ha).2
  have kb : b.k = 0 := of_decide_eq_true (List.mem_filter.1 hb).2
  exact hab ka k1 kb k2
theorem zI6 {ds : List Dd} {i : Nat} {f : Dd → Dd} (hk : ∀ d, (f d).ask = d.ask) : (ds.modify i f).map Dd.ask = ds.map Dd.ask := by
 refine List.ext_getElem? (fun j => ?_)
 rw [List.getElem?_map, List.getElem?_map]
 by_cases e : i = j
 ·subst e
  cases hd : ds[i]? with
  | none => rw [List.getElem?_modify, hd]; rfl
  | some d => rw [zBL hd]; exact congrArg some (hk d)
 ·rw [zBa e]
theorem zIB {Y : Yd} {P : Pl} {w i : Nat} {T : Wk} {z : Int} : (Y.step P w T i z).ds.map Dd.ask = Y.ds.map Dd.ask := by
 show (if _ then Y.ds else Y.ds.modify i _).map Dd.ask = _
 split
 ·rfl
 ·have key : ∀ d : Dd, (d.over Y.moves (T.step P Y.C Y.now z)).ask = d.ask := fun d => by
   obtain ⟨s1, s2, s3, s4, s5, _, _⟩ := Dd.over_same d Y.moves (T.step P Y.C Y.now z)
   unfold Dd.ask
   rw [s1, s2, s3, s4, s5]
  exact zI6 key
theorem zFF {B : YB} {N j s : Nat} {Y0 Y : Yd} (h : Tick B N Y0 j Y s) : Y.ds.map Dd.ask = Y0.ds.map Dd.ask := by
 induction h with
 | zero => rfl
 | skip h hn ih => exact ih
 | step h T i z hk ha ih => rw [← ih]; exact zIB
end
section
open Go.RowKit
theorem YOk.fitT {pl : Nat → Pl} {t n : Nat} {Y : Yd} (h : YOk pl t n Y) (ht : t ≤ 1000) (hn : n ≤ 1000000) {d : Dd} (hd : d ∈ Y.ds) : d.Fit := by
 obtain ⟨i, hi⟩ := List.mem_iff_getElem?.1 hd
 obtain ⟨⟨w, hw, hwt, _⟩, f0, f1, f2⟩ := h.deed i d hi
 have hm := h.most
 refine ⟨WalkArith.wf_i64 (by omega), by omega, by omega, ?_, ?_⟩
 ·by_cases e : d.till = -1
  ·omega
  ·have := (f2 e).1
   omega
 ·by_cases e : d.till = -1
  ·omega
  ·have := (f2 e).2
   omega
theorem zEt {w : World} {base cap : Nat} {A : Option Addr} {L : List Dd} (h : w.ownsRow base 76 11 (.slice A L.length cap) L.length (flatD L)) (hF : ∀ d ∈ L, d.Fit) : ∃ tb, IsDds w A L.length cap tb 0 L := by
 have hc := zEn h
 rcases h.2 with ⟨hv, h0⟩ | ⟨g, cap', cur, hv, _, hh, _⟩
 ·have hl : L = [] := List.eq_nil_of_length_eq_zero h0
  subst hl
  exact ⟨0, rfl, hc, fun hp => absurd hp (Nat.lt_irrefl _), fun i d hd => by cases hd⟩
 ·cases hv
  refine ⟨g, rfl, hc, fun _ => ⟨rfl, (Array.getElem?_eq_some_iff.1 hh).1⟩, fun i d hd => ⟨?_, hF d (List.mem_of_getElem? hd)⟩⟩
  rw [Nat.zero_add]
  exact AtDd.row h hd
theorem YdL.deedsT {W w : World} {l : List Thing} {B : YB} {N n : Nat} {Y : Yd} {J : Nat → Nat} (h : YdL W w l B N Y J n) (hn : n ≤ 1000000) (hT : B.T ≤ 1000) : Calls Tryz.prog 25 #[pt B.yb] w fun r w' => ∃ A cp tb, r = .returned (.slice A Y.ds.length cp) ∧ Below w.heap.size w w' ∧ IsDds w' A Y.ds.length cp tb 0 Y.ds := by
 refine (h.deeds hn).mono ?_
 rintro r w' ⟨v, rfl, hrow, hb⟩
 obtain ⟨A, cp, rfl⟩ := zAK hrow
 obtain ⟨tb, hd⟩ := zEt hrow (fun d hd => h.ok.fitT hT hn hd)
 exact ⟨A, cp, tb, rfl, hb, hd⟩
theorem IsDds.less {w w' : World} {a : Option Addr} {len cap tb off : Nat} {l : List Dd} (h : IsDds w a len cap tb off l) (e : Below w.heap.size w w') : IsDds w' a len cap tb off l := h.later e (fun hp => (h.2.2.1 hp).2)
end
section
open Go.RowKit
def lPut (v : Int) : Dd := ⟨0, 0, 1, v, 0, 0, 0, true, 0, 0, 0⟩
def lGet (e v : Int) : Dd := ⟨0, 1, e, 0, 0, 0, 0, true, v, 0, 0⟩
def lNone : Dd := ⟨0, 1, 0, 0, 0, 0, 0, false, 0, 0, 0⟩
def OneBy (l : List Dd) : Prop := ∀ (i : Nat) (d : Dd), l[i]? = some d → d.fr = 2 * (i : Int) ∧ d.till = 2 * (i : Int) + 1
end
section
open Go.RowKit
def cOk (d : Dd) : Prop := (d.kd = 0 ∨ d.kd = 1) ∧ (d.e = 0 ∨ d.e = 1)
instance (d : Dd) : Decidable (cOk d) := inferInstanceAs (Decidable (_ ∧ _))
def dOwn (l : List Dd) (w : Int) : Nat → Int
 | 0 => -1
 | i + 1 => match l[i]? with
  | some o => if o.who = w then i else dOwn l w i
  | none => dOwn l w i
def rFrom (l : List Dd) (i : Nat) (d : Dd) : Prop := 0 ≤ d.fr ∧ ∀ j p, i = j + 1 → l[j]? = some p → p.fr < d.fr
def rTill (d : Dd) : Prop := 0 ≤ d.till → d.fr < d.till
def rApart (d o : Dd) : Prop := d.fr ≠ o.till ∧ (0 ≤ d.till → d.till ≠ o.till ∧ d.till ≠ o.fr)
def rMoves (l : List Dd) (i : Nat) (d : Dd) : Prop := ∀ k o, k < i → l[k]? = some o → rApart d o
def rOwn (l : List Dd) (i : Nat) (d : Dd) : Prop := ∀ k o, dOwn l d.who i = (k : Nat) → l[k]? = some o → dBef o d
structure ROk (l : List Dd) (i : Nat) (d : Dd) : Prop where
 call : cOk d
 frm : rFrom l i d
 till : rTill d
 moves : rMoves l i d
 own : rOwn l i d
def DRight (l : List Dd) (n : Nat) : Prop := ∀ i d, i < n → l[i]? = some d → ROk l i d
section
variable {l : List Dd} {i : Nat} {d : Dd}
theorem DRight.zero : DRight l 0 := fun i d h => absurd h (Nat.not_lt_zero _)
theorem DRight.next (h : DRight l i) (hd : l[i]? = some d) (ho : ROk l i d) : DRight l (i + 1) := fun j o hj hl => by
 by_cases e : j = i
 ·subst e
  rw [hd] at hl
  cases hl
  exact ho
 ·exact h j o (by omega) hl
theorem zGN (w : Int) : ∀ i, -1 ≤ dOwn l w i ∧ dOwn l w i < i
 | 0 => by
  rw [dOwn]
  omega
 | i + 1 => by
  have ih := zGN w i
  rw [dOwn]
  split
  ·split <;> omega
  ·omega
def prevFr (l : List Dd) : Nat → Int
 | 0 => -1
 | i + 1 => match l[i]? with
  | some o => o.fr
  | none => -1
theorem zCd (h : l[i]? = some d) : prevFr l (i + 1) = d.fr := by rw [prevFr, h]
theorem DRight.below (h : DRight l i) (hi : i ≤ l.length) : -1 ≤ prevFr l i ∧ ∀ k o, k < i → l[k]? = some o → 0 ≤ o.fr ∧ o.fr ≤ prevFr l i := by
 induction i with
 | zero => exact ⟨Int.le_refl _, fun k o hk => absurd hk (Nat.not_lt_zero _)⟩
 | succ i ih =>
  have ih := ih (fun j d hj => h j d (by omega)) (by omega)
  have e : l[i]? = some (l[i]'(by omega)) := List.getElem?_eq_getElem (by omega)
  have ho := h i _ (Nat.lt_succ_self i) e
  have h0 := ho.frm.1
  rw [zCd e]
  have hlt : prevFr l i < (l[i]'(by omega)).fr := by
   cases i with
   | zero =>
    show (-1 : Int) < _
    omega
   | succ j =>
    have e2 : l[j]? = some (l[j]'(by omega)) := List.getElem?_eq_getElem (by omega)
    rw [zCd e2]
    exact ho.frm.2 j _ rfl e2
  refine ⟨by omega, fun k o hk hl => ?_⟩
  by_cases ek : k = i
  ·subst ek
   rw [e] at hl
   cases hl
   exact ⟨h0, Int.le_refl _⟩
  ·have := ih.2 k o (by omega) hl
   exact ⟨this.1, by omega⟩
def movM (l : List Dd) (i : Nat) (m : Int) : Bool := (l.take i).any (fun o => decide (m = o.fr) || (decide (0 ≤ o.till) && decide (m = o.till)))
def lastF (l : List Dd) (i : Nat) (w : Int) : Int := max (dOwn l w i) 0
def lastM (l : List Dd) (i : Nat) (w : Int) : Bool := decide (0 ≤ dOwn l w i)
end
theorem zET {l : List Dd} {n : Nat} (w : Int) : ∀ {i : Nat}, i ≤ n → dOwn (l.take n) w i = dOwn l w i
 | 0, _ => rfl
 | i + 1, h => by
  rw [dOwn, dOwn, List.getElem?_take_of_lt (by omega), zET w (by omega)]
theorem DRight.take {l : List Dd} {n : Nat} (h : DRight l n) : DRight (l.take n) n := fun i d hi hd => by
 rw [List.getElem?_take_of_lt hi] at hd
 obtain ⟨h1, h2, h3, h4, h5⟩ := h i d hi hd
 refine ⟨h1, ⟨h2.1, fun j p hj hp => ?_⟩, h3, fun k o hk ho => ?_, fun k o hk ho => ?_⟩
 ·rw [List.getElem?_take_of_lt (by omega)] at hp
  exact h2.2 j p hj hp
 ·rw [List.getElem?_take_of_lt (by omega)] at ho
  exact h4 k o hk ho
 ·rw [zET _ (by omega)] at hk
  have := (zGN (l := l) d.who i).2
  rw [List.getElem?_take_of_lt (by omega)] at ho
  exact h5 k o hk ho
end
section
open Go.RowKit
open Go.RowKit Go.Maps
structure MapTy (P : Program) (t kt et : TypeId) (kq : IntKind) : Prop where
 ht : P.underlying t = some (.map kt et)
 hk : P.underlying kt = some (.int kq)
 he : P.underlying et = some (.int .i64)
 hz : ∀ w, (zeroValue et).run P w = .ok (.int .i64 0) w
structure SetTy (P : Program) (t kt et : TypeId) (kq : IntKind) : Prop where
 ht : P.underlying t = some (.map kt et)
 hk : P.underlying kt = some (.int kq)
 hz : ∀ w, (zeroValue et).run P w = .ok (.agg #[]) w
def IMap (P : Program) (kt et : TypeId) (kq : IntKind) (w : World) (b n : Nat) (F : Int → Int) (M : Int → Bool) : Prop :=
 ∃ D : DataW Unit, w.ownsMap P kt (plainElem P et) b n D ∧ ∀ k, (Lit.int kq k).wf = true → D.atKey (.int kq k) (.lit (.int .i64 0)) = .lit (.int .i64 (F k)) ∧ Maps.has D (.int kq k) = M k
def ISet (P : Program) (kt : TypeId) (kq : IntKind) (w : World) (b n : Nat) (M : Int → Bool) : Prop :=
 ∃ D : DataW Unit, w.ownsMap P kt unitElem b n D ∧ ∀ k, (Lit.int kq k).wf = true → Maps.has D (.int kq k) = M k
section
variable {P : Program} {t kt et : TypeId} {kq : IntKind} {w w' : World} {b n : Nat} {F : Int → Int} {M : Int → Bool}
theorem zC7 {H : Type} {R : Value → Option (DataW H × List MemPlace)} {D : DataW H} {B : Nat} (h : w.ownsMap P kt R b n D) (e : Below B w w') (hb : b < B) : w'.ownsMap P kt R b n D := by
 obtain ⟨es, clock, h1, h2⟩ := h
 exact ⟨es, clock, (e.block b hb).trans h1, h2⟩
theorem IMap.lt (h : IMap P kt et kq w b n F M) : b < w.heap.size := by
 obtain ⟨D, h, _⟩ := h
 exact h.lt
theorem ISet.lt (h : ISet P kt kq w b n M) : b < w.heap.size := by
 obtain ⟨D, h, _⟩ := h
 exact h.lt
theorem IMap.later (h : IMap P kt et kq w b n F M) (e : Below w.heap.size w w') : IMap P kt et kq w' b n F M := by
 obtain ⟨D, h, k⟩ := h
 exact ⟨D, zC7 h e h.lt, k⟩
theorem ISet.later (h : ISet P kt kq w b n M) (e : Below w.heap.size w w') : ISet P kt kq w' b n M := by
 obtain ⟨D, h, k⟩ := h
 exact ⟨D, zC7 h e h.lt, k⟩
theorem IMap.kept {row : Option Nat} (h : IMap P kt et kq w b n F M) (hg : w.grownBy w' row) (hne : some b ≠ row) : IMap P kt et kq w' b n F M := by
 obtain ⟨D, h, k⟩ := h
 exact ⟨D, h.kept hg hne, k⟩
theorem ISet.kept {row : Option Nat} (h : ISet P kt kq w b n M) (hg : w.grownBy w' row) (hne : some b ≠ row) : ISet P kt kq w' b n M := by
 obtain ⟨D, h, k⟩ := h
 exact ⟨D, h.kept hg hne, k⟩
theorem IMap.drew (h : IMap P kt et kq w b n F M) : IMap P kt et kq w.drew b n F M := h
theorem ISet.drew (h : ISet P kt kq w b n M) : ISet P kt kq w.drew b n M := h
theorem IMap.setCell (h : IMap P kt et kq w b n F M) {a : Addr} (ha : b ≠ a.block) (u : Value) : IMap P kt et kq (w.setCell a u) b n F M := by
 obtain ⟨D, h, k⟩ := h
 exact ⟨D, h.setCell ha u, k⟩
theorem ISet.setCell (h : ISet P kt kq w b n M) {a : Addr} (ha : b ≠ a.block) (u : Value) : ISet P kt kq (w.setCell a u) b n M := by
 obtain ⟨D, h, k⟩ := h
 exact ⟨D, h.setCell ha u, k⟩
theorem IMap.mono (h : IMap P kt et kq w b n F M) {n' : Nat} (hn : n ≤ n') : IMap P kt et kq w b n' F M := by
 obtain ⟨D, h, k⟩ := h
 exact ⟨D, h.mono hn, k⟩
theorem ISet.mono (h : ISet P kt kq w b n M) {n' : Nat} (hn : n ≤ n') : ISet P kt kq w b n' M := by
 obtain ⟨D, h, k⟩ := h
 exact ⟨D, h.mono hn, k⟩
theorem IMap.made (w : World) (P : Program) (kt et : TypeId) (kq : IntKind) : IMap P kt et kq (w.alloc (.map #[] 0)) w.heap.size 0 (fun _ => 0) (fun _ => false) :=
 ⟨.map [], World.ownsMap_made _ _ _ _, fun _ _ => ⟨rfl, rfl⟩⟩
theorem ISet.made (w : World) (P : Program) (kt : TypeId) (kq : IntKind) : ISet P kt kq (w.alloc (.map #[] 0)) w.heap.size 0 (fun _ => false) :=
 ⟨.map [], World.ownsMap_made _ _ _ _, fun _ _ => rfl⟩
def putF (F : Int → Int) (k c : Int) : Int → Int := fun z => if z = k then c else F z
def putM (M : Int → Bool) (k : Int) : Int → Bool := fun z => decide (z = k) || M z
theorem IMap.store (ty : MapTy P t kt et kq) (h : IMap P kt et kq w b n F M) (hn : n < maxLen) {k c : Int} (hk : (Lit.int kq k).wf = true) (hc : (Lit.int .i64 c).wf = true) :
  ∃ w', (Instr.mapUpdate t (.map (some b)) (.int kq k) (.int .i64 c)).run P w = .ok () w' ∧ IMap P kt et kq w' b (n + 1) (putF F k c) (putM M k) ∧ w.grownBy w' (some b) := by
 obtain ⟨D, h, hD⟩ := h
 have K := int_keyed ty.hk
 have key := keyOf_int_mk ty.hk hk
 obtain ⟨w', hr, h1, h2⟩ := h.update K ty.ht hn key (plainElem_int ty.he hc)
 refine ⟨w', hr, ⟨_, h1, fun z hz => ?_⟩, h2⟩
 by_cases e : z = k
 ·subst e
  rw [atKey_put_same h.isMap (K.key key), has_put_same h.isMap (K.key key)]
  exact ⟨by rw [putF, if_pos rfl], by rw [putM]; simp⟩
 ·have hne : Lit.int kq z ≠ Lit.int kq k := fun hh => e (by cases hh; rfl)
  rw [atKey_put_other hne, has_put_other hne]
  exact ⟨by rw [putF, if_neg e]; exact (hD z hz).1, by rw [putM, decide_eq_false e, Bool.false_or]; exact (hD z hz).2⟩
theorem ISet.store (ty : SetTy P t kt et kq) (h : ISet P kt kq w b n M) (hn : n < maxLen) {k : Int} (hk : (Lit.int kq k).wf = true) :
  ∃ w', (Instr.mapUpdate t (.map (some b)) (.int kq k) (.agg #[])).run P w = .ok () w' ∧ ISet P kt kq w' b (n + 1) (putM M k) ∧ w.grownBy w' (some b) := by
 obtain ⟨D, h, hD⟩ := h
 have K := int_keyed ty.hk
 have key := keyOf_int_mk ty.hk hk
 obtain ⟨w', hr, h1, h2⟩ := h.update K ty.ht hn key unitElem_mk
 refine ⟨w', hr, ⟨_, h1, fun z hz => ?_⟩, h2⟩
 by_cases e : z = k
 ·subst e
  rw [has_put_same h.isMap (K.key key), putM]
  simp
 ·have hne : Lit.int kq z ≠ Lit.int kq k := fun hh => e (by cases hh; rfl)
  rw [has_put_other hne, putM, decide_eq_false e, Bool.false_or]
  exact hD z hz
variable {ops : Array Oper} {rest : List Oper} {o : Oper} {a : Act} {Q : Exit → Act → World → Prop}
end
end
section
open Go.RowKit
open Go.RowKit Go.Maps
theorem IMap.keep {P : Program} {kt et : TypeId} {kq : IntKind} {w w' : World} {b n : Nat} {F : Int → Int} {M : Int → Bool} {T : Nat → Prop} (h : IMap P kt et kq w b n F M) (k : Keep T w w') (hn : ¬ T b) : IMap P kt et kq w' b n F M := by
 have hl := h.lt
 obtain ⟨D, ⟨es, clock, h1, h2⟩, hD⟩ := h
 exact ⟨D, ⟨es, clock, (k.block b hl hn).trans h1, h2⟩, hD⟩
theorem AtBd.keep {w w' : World} {b : Nat} {d : Dd} {T : Nat → Prop} (h : AtBd w b d) (e : Keep T w w') (hr : ¬ T b) : AtBd w' b d :=
 ⟨e.cell h.c0 hr, e.cell h.c1 hr, e.cell h.c2 hr, e.cell h.c3 hr, e.cell h.c4 hr, e.cell h.c5 hr, e.cell h.c6 hr, e.cell h.c7 hr, e.cell h.c8 hr, e.cell h.c9 hr, e.cell h.c10 hr⟩
structure RS (w0 w : World) (n1 n2 : Nat) (F : Int → Int) (M S : Int → Bool) : Prop where
 below : Below w0.heap.size w0 w
 last : IMap Tryz.prog 3 3 .i64 w w0.heap.size n1 F M
 mov : ISet Tryz.prog 3 .i64 w (w0.heap.size + 1) n2 S
 box : w.cell? ⟨w0.heap.size + 2, 0, none⟩ = some (.map (some (w0.heap.size + 1)))
theorem RS.lt {w0 w : World} {n1 n2 : Nat} {F : Int → Int} {M S : Int → Bool} (h : RS w0 w n1 n2 F M S) : w0.heap.size + 2 < w.heap.size := World.block_lt_of_cell? w _ h.box
theorem RS.later {w0 w w' : World} {n1 n2 : Nat} {F : Int → Int} {M S : Int → Bool} (h : RS w0 w n1 n2 F M S) (e : Below w.heap.size w w') : RS w0 w' n1 n2 F M S :=
 ⟨zAB h.below e, h.last.later e, h.mov.later e, (e.cell (p := ⟨w0.heap.size + 2, 0, none⟩) h.lt).trans h.box⟩
theorem RS.keep {w0 w w' : World} {n1 n2 n2' : Nat} {F : Int → Int} {M S S' : Int → Bool} (h : RS w0 w n1 n2 F M S) (e : Keep (fun k => k = w0.heap.size + 1) w w') (hS : ISet Tryz.prog 3 .i64 w' (w0.heap.size + 1) n2' S') : RS w0 w' n1 n2' F M S' :=
 ⟨zAT h.below e h.below.size (fun i hi => by have hi : i = _ := hi; omega), h.last.keep e (fun hh => by have : w0.heap.size = w0.heap.size + 1 := hh; omega), hS, e.cell h.box (fun hh => by have : w0.heap.size + 2 = w0.heap.size + 1 := hh; omega)⟩
theorem RS.put {w0 w w' : World} {n1 n1' n2 : Nat} {F F' : Int → Int} {M M' S : Int → Bool} (h : RS w0 w n1 n2 F M S) (e : w.grownBy w' (some w0.heap.size)) (hM : IMap Tryz.prog 3 3 .i64 w' w0.heap.size n1' F' M') : RS w0 w' n1' n2 F' M' S :=
 ⟨h.below.grown e h.below.size (fun k hk => by cases hk; exact Nat.le_refl _), hM, h.mov.kept e (fun hh => by have := Option.some.inj hh; omega), (World.cell?_of_block (e.block (w0.heap.size + 2) h.lt (fun hh => by have := Option.some.inj hh; omega))).trans h.box⟩
end
section
open Go.RowKit
def rowOf (C : List Int) (f t : Nat) : List Int := (C.drop f).take (t - f)
theorem zGA {C : List Int} {f t : Nat} (h2 : t ≤ C.length) : (rowOf C f t).length = t - f := by
 unfold rowOf
 rw [List.length_take, List.length_drop]
 omega
theorem zGS (C : List Int) (f t i : Nat) : (rowOf C f t)[i]? = if i < t - f then C[f + i]? else none := by
 unfold rowOf
 rw [List.getElem?_take]
 split
 ·rw [List.getElem?_drop]
 ·rfl
theorem zHj {C : List Int} {f t i : Nat} (h : i < t - f) : (rowOf C f t).getD i 0 = C.getD (f + i) 0 := by
 rw [List.getD_eq_getElem?_getD, List.getD_eq_getElem?_getD, zGS, if_pos h]
def IsU (w : World) (a : Option Addr) (R : List Int) : Prop :=
 0 < R.length → ∃ g off, a = some ⟨g, off, none⟩ ∧ g < w.heap.size ∧ ∀ i, i < R.length → w.cell? ⟨g, off + i, none⟩ = some (u64 (R.getD i 0))
theorem IsU.nil (w : World) (a : Option Addr) : IsU w a [] := fun h => absurd h (by simp)
theorem IsU.later {w w' : World} {a : Option Addr} {R : List Int} (h : IsU w a R) (e : Below w.heap.size w w') : IsU w' a R := fun hp => by
 obtain ⟨g, off, h1, h2, h3⟩ := h hp
 exact ⟨g, off, h1, Nat.lt_of_lt_of_le h2 e.size, fun i hi => (e.cell (p := ⟨g, off + i, none⟩) h2).trans (h3 i hi)⟩
theorem IsU.row {w : World} {base g cap f t : Nat} {C : List Int} (h : w.ownsRow base 30 1 (.slice (some ⟨g, 0, none⟩) C.length cap) C.length (C.map u64)) (h2 : t ≤ C.length) : IsU w (some ⟨g, f, none⟩) (rowOf C f t) := fun hp => by
 rw [zGA h2] at hp ⊢
 refine ⟨g, f, rfl, (h.lt g rfl).2, fun i hi => ?_⟩
 rw [zHj hi]
 exact zGk (k := .u64) h (by omega)
theorem IsU.tail {w : World} {g off : Nat} {R : List Int} (h : IsU w (some ⟨g, off, none⟩) R) : IsU w (some ⟨g, off + 1, none⟩) (R.drop 1) := fun hp => by
 rw [List.length_drop] at hp
 obtain ⟨g', off', h1, h2, h3⟩ := h (by omega)
 cases h1
 refine ⟨g, off + 1, rfl, h2, fun i hi => ?_⟩
 rw [List.length_drop] at hi
 rw [List.getD_eq_getElem?_getD, List.getElem?_drop, ← List.getD_eq_getElem?_getD, show off + 1 + i = off + (1 + i) by omega]
 exact h3 _ (by omega)
theorem IsU.init {w : World} {a : Option Addr} {R : List Int} (h : IsU w a R) (n : Nat) : IsU w a (R.take n) := fun hp => by
 rw [List.length_take] at hp
 obtain ⟨g, off, h1, h2, h3⟩ := h (by omega)
 refine ⟨g, off, h1, h2, fun i hi => ?_⟩
 rw [List.length_take] at hi
 rw [List.getD_eq_getElem?_getD, List.getElem?_take, if_pos (by omega), ← List.getD_eq_getElem?_getD]
 exact h3 _ (by omega)
def stV (R : List Int) (e : Int) : Int := if R = [] then 0 else if e = 0 then R.getD 0 0 else R.getD (R.length - 1) 0
def RwH (W w : World) (b : Nat) (C : List Int) (f t : Nat) : Prop :=
 f ≤ t ∧ t ≤ C.length ∧ ∃ g, Hold W w [tObj W.heap.size b [.slice (some ⟨g, 0, none⟩) C.length C.length, i64 f, i64 t], tRow W.heap.size 30 1 (.slice (some ⟨g, 0, none⟩) C.length C.length) C.length (C.map u64)]
theorem RwH.later {W w w' : World} {b : Nat} {C : List Int} {f t : Nat} (h : RwH W w b C f t) (e : Below w.heap.size w w') : RwH W w' b C f t :=
 ⟨h.1, h.2.1, h.2.2.imp fun _ hh => hh.later e⟩
theorem RwH.below {W w : World} {b : Nat} {C : List Int} {f t : Nat} (h : RwH W w b C f t) : Below W.heap.size W w := by
 obtain ⟨_, _, g, hh⟩ := h
 exact hh.below
def RwTo (W w' : World) (b : Nat) (C : List Int) (f t : Nat) (R : List Int) : Prop :=
 ∃ C' f' t', RwH W w' b C' f' t' ∧ C'.length = C.length ∧ f ≤ f' + 1 ∧ t' ≤ t + 1 ∧ rowOf C' f' t' = R
theorem RwH.to {W w : World} {b : Nat} {C : List Int} {f t : Nat} (h : RwH W w b C f t) : RwTo W w b C f t (rowOf C f t) := ⟨C, f, t, h, rfl, by omega, by omega, rfl⟩
theorem RwTo.later {W w w' : World} {b : Nat} {C : List Int} {f t : Nat} {R : List Int} (h : RwTo W w b C f t R) (e : Below w.heap.size w w') : RwTo W w' b C f t R := by
 obtain ⟨C', f', t', h1, h2⟩ := h
 exact ⟨C', f', t', h1.later e, h2⟩
theorem RwTo.drew {W w : World} {b : Nat} {C : List Int} {f t : Nat} {R : List Int} (h : RwTo W w b C f t R) : RwTo W w.drew b C f t R := h.later (Below.refl _ _).drew
def StU (w : World) (A : Option Addr) (n cap : Nat) (R : List Int) : Prop := IsU w A R ∧ R.length = n ∧ n ≤ cap ∧ n ≤ 1000000
end
section
open Go.RowKit
theorem dDo_p {row : List Int} {d : Dd} (hk : d.kd = 0) (ho : d.ok = true) : dDo row d = some (if d.e = 0 then d.x :: row else row ++ [d.x]) := by
 unfold dDo
 rw [if_pos hk, if_pos ho]
theorem dDo_pn {row : List Int} {d : Dd} (hk : d.kd = 0) (ho : d.ok = false) : dDo row d = some row := by
 unfold dDo
 rw [if_pos hk, if_neg (by rw [ho]; decide)]
theorem dDo_gn {row : List Int} {d : Dd} (hk : d.kd ≠ 0) (ho : d.ok = false) : dDo row d = if row = [] then some row else none := by
 unfold dDo
 rw [if_neg hk, if_neg (by rw [ho]; decide)]
theorem dDo_g {row : List Int} {d : Dd} (hk : d.kd ≠ 0) (ho : d.ok = true) (h : row ≠ [] ∧ stV row d.e = d.v) : dDo row d = some (if d.e = 0 then row.drop 1 else row.take (row.length - 1)) := by
 obtain ⟨h1, h2⟩ := h
 unfold stV at h2
 rw [if_neg h1] at h2
 unfold dDo
 rw [if_neg hk, if_pos ho, if_neg h1]
 by_cases he : d.e = 0
 ·rw [if_pos he] at h2 ⊢
  rw [if_pos h2, if_pos he]
 ·rw [if_neg he] at h2 ⊢
  rw [if_pos h2, if_neg he]
theorem zIX {row : List Int} {d : Dd} (hk : d.kd ≠ 0) (ho : d.ok = true) (h : ¬ (row ≠ [] ∧ stV row d.e = d.v)) : dDo row d = none := by
 unfold dDo
 rw [if_neg hk, if_pos ho]
 by_cases h1 : row = []
 ·rw [if_pos h1]
 ·rw [if_neg h1]
  have h2 : ¬ stV row d.e = d.v := fun h2 => h ⟨h1, h2⟩
  unfold stV at h2
  rw [if_neg h1] at h2
  by_cases he : d.e = 0
  ·rw [if_pos he] at h2 ⊢
   rw [if_neg h2]
  ·rw [if_neg he] at h2 ⊢
   rw [if_neg h2]
theorem RwTo.below {W w : World} {b : Nat} {C : List Int} {f t : Nat} {R : List Int} (h : RwTo W w b C f t R) : Below W.heap.size W w := by
 obtain ⟨C', f', t', h1, _⟩ := h
 exact h1.below
def RwDid (W w' : World) (b : Nat) (C : List Int) (f t : Nat) (r : Ending) (o : Option (List Int)) : Prop :=
 Below W.heap.size W w' ∧ ((∃ R, o = some R ∧ r = .returned (.bool true) ∧ RwTo W w' b C f t R) ∨ (o = none ∧ r = .returned (.bool false)))
theorem zHH {w : World} {base g N : Nat} {L : List Value} (hg : w.heap[g]? = some (.cells L.toArray 30 (0, 0))) (hl : L.length = N) (hb : base ≤ g) (hN : N ≤ maxLen) : w.ownsRow base 30 1 (.slice (some ⟨g, 0, none⟩) N N) N L :=
 ⟨by omega, .inr ⟨g, N, _, rfl, hb, hg, Nat.le_refl _, hN, by simp [hl], by rw [Nat.mul_one]; exact List.take_of_length_le (by simp [hl])⟩⟩
theorem IsU.src {w : World} {a : Option Addr} {R : List Int} (h : IsU w a R) (hp : 0 < R.length) : ∃ ad, a = some ad ∧ ∀ (j : Nat) (v : Value), (R.map u64)[j]? = some v → w.cell? (ad.add j) = some v := by
 obtain ⟨g, off, rfl, _, h3⟩ := h hp
 refine ⟨_, rfl, fun j v hj => ?_⟩
 rw [List.getElem?_map] at hj
 obtain ⟨x, hx, rfl⟩ := Option.map_eq_some_iff.1 hj
 obtain ⟨hl, rfl⟩ := List.getElem?_eq_some_iff.1 hx
 rw [zA2, h3 j hl, List.getD_eq_getElem?_getD, hx]
 rfl
def DoTo (w w' : World) (r : Ending) (o : Option (List Int)) : Prop :=
 Below w.heap.size w w' ∧ ∃ a n c ok, r = .returned (.tuple #[.slice a n c, .bool ok]) ∧ (∀ R, o = some R → ok = true ∧ n = R.length ∧ n ≤ c ∧ IsU w' a R) ∧ (o = none → ok = false)
def DoFr (w w' : World) (r : Ending) (o : Option (List Int)) : Prop :=
 Below w.heap.size w w' ∧ ∃ a n c ok, r = .returned (.tuple #[.slice a n c, .bool ok]) ∧ (∀ R, o = some R → ok = true ∧ n = R.length ∧ n ≤ c ∧ IsU w' a R ∧ ∀ k off, a = some ⟨k, off, none⟩ → w.heap.size ≤ k) ∧ (o = none → ok = false)
theorem DoFr.to {w w' : World} {r : Ending} {o : Option (List Int)} (h : DoFr w w' r o) : DoTo w w' r o := by
 obtain ⟨h0, a, n, c, ok, h1, h2, h3⟩ := h
 exact ⟨h0, a, n, c, ok, h1, fun R hR => ⟨(h2 R hR).1, (h2 R hR).2.1, (h2 R hR).2.2.1, (h2 R hR).2.2.2.1⟩, h3⟩
theorem RwDid.cases {W w' : World} {b : Nat} {C : List Int} {f t : Nat} {r : Ending} {o : Option (List Int)} (h : RwDid W w' b C f t r o) : ∃ ok, r = .returned (.bool ok) ∧ Below W.heap.size W w' ∧ (ok = true → ∃ R, o = some R ∧ RwTo W w' b C f t R) ∧ (ok = false → o = none) := by
 obtain ⟨h1, ⟨R, h2, h3, h4⟩ | ⟨h2, h3⟩⟩ := h
 ·exact ⟨true, h3, h1, fun _ => ⟨R, h2, h4⟩, fun h => Bool.noConfusion h⟩
 ·exact ⟨false, h3, h1, fun h => Bool.noConfusion h, fun _ => h2⟩
end
section
open Go.RowKit
theorem zAY : ElemAt Tryz.prog 64 4 (.bool false) 1 1 := ElemAt.mk' Tryz.underlying64 (by kernel_rfl) rfl (by decide)
def inS (S : List Bool) (i : Nat) : Prop := S.getD i false = true
theorem zGb {S : List Bool} {i : Nat} (hi : i < S.length) (k : Nat) : inS (S.set i true) k ↔ inS S k ∨ k = i := by
 unfold inS
 rw [List.getD_eq_getElem?_getD, List.getD_eq_getElem?_getD, List.getElem?_set]
 by_cases e : i = k
 ·subst e
  rw [if_pos rfl, if_pos hi]
  simp
 ·rw [if_neg e]
  exact ⟨.inl, fun h => h.resolve_right (fun h => e h.symm)⟩
theorem zDY {w : World} {base : Nat} {n cap g : Nat} {S : List Bool} (h : w.ownsRow base 4 1 (.slice (some ⟨g, 0, none⟩) n cap) n (S.map Value.bool)) {j : Nat} (hj : j < n) : w.cell? ⟨g, j, none⟩ = some (.bool (S.getD j false)) := by
 have hl := h.1
 rw [List.length_map] at hl
 rw [h.cellAt j (by omega), List.getElem?_map, List.getD_eq_getElem?_getD, List.getElem?_eq_getElem (by omega)]
 rfl
def tU (base : Nat) (a : Option Addr) (R : List Int) : Thing := ⟨fun w => IsU w a R ∧ (0 < R.length → ∀ k off, a = some ⟨k, off, none⟩ → base ≤ k), fun k => 0 < R.length ∧ ∃ off, a = some ⟨k, off, none⟩⟩
def SrL (base bs : Nat) (a0 : Option Addr) (n cap0 sg : Nat) (S : List Bool) (OV : Value) (O : List Nat) : List Thing :=
 [tObj base bs [.slice a0 n cap0, .slice (some ⟨sg, 0, none⟩) n n, OV], tRow base 4 1 (.slice (some ⟨sg, 0, none⟩) n n) n (S.map Value.bool), tRow base 3 1 OV O.length (O.map (fun i : Nat => i64 (i : Int)))]
def SrH (W w : World) (bs : Nat) (a0 : Option Addr) (n cap0 : Nat) (S : List Bool) (O : List Nat) (X : List Thing) : Prop :=
 S.length = n ∧ ∃ sg OV, Hold W w (SrL W.heap.size bs a0 n cap0 sg S OV O ++ X)
section
variable {W w w' : World} {bs : Nat} {a0 : Option Addr} {n cap0 : Nat} {S : List Bool} {O : List Nat} {X : List Thing}
theorem SrH.later (h : SrH W w bs a0 n cap0 S O X) (e : Below w.heap.size w w') : SrH W w' bs a0 n cap0 S O X := by
 obtain ⟨h1, sg, OV, h2⟩ := h
 exact ⟨h1, sg, OV, h2.later e⟩
theorem SrH.below (h : SrH W w bs a0 n cap0 S O X) : Below W.heap.size W w := by
 obtain ⟨h1, sg, OV, h2⟩ := h
 exact h2.below
theorem SrH.at' (h : SrH W w bs a0 n cap0 S O X) : ∃ sg OV, w.cell? ⟨bs, 0, none⟩ = some (.slice a0 n cap0) ∧ w.cell? ⟨bs, 1, none⟩ = some (.slice (some ⟨sg, 0, none⟩) n n) ∧ w.cell? ⟨bs, 2, none⟩ = some OV ∧ ∀ j, j < n → w.cell? ⟨sg, j, none⟩ = some (.bool (S.getD j false)) := by
 obtain ⟨h1, sg, OV, h2⟩ := h
 have hO : IsObj w bs [.slice a0 n cap0, .slice (some ⟨sg, 0, none⟩) n n, OV] := (h2.has 0 _ rfl).1
 exact ⟨sg, OV, hO.at' 0 _ rfl, hO.at' 1 _ rfl, hO.at' 2 _ rfl, fun j hj => zDY (h2.has 1 _ rfl) hj⟩
end
end
section
open Go.RowKit
theorem zI2 {R : List Int} {d : Dd} (hk : d.kd = 1) (he : d.e = 0 ∨ d.e = 1) : (if d.kd = 1 ∧ R ≠ [] then (if d.e = 1 then R.getD (R.length - 1) 0 else R.getD 0 0) else 0) = stV R d.e := by
 unfold stV
 by_cases hr : R = []
 ·rw [if_pos hr, if_neg (fun h => h.2 hr)]
 ·rw [if_neg hr, if_pos ⟨hk, hr⟩]
  rcases he with he | he
  ·rw [he, if_pos rfl, if_neg (by decide)]
  ·rw [he, if_pos rfl, if_neg (by decide)]
section
variable {W w W1 w4 : World} {bs : Nat} {a0 : Option Addr} {n cap0 sg i : Nat} {S : List Bool} {OV v' : Value} {O : List Nat} {X : List Thing}
end
theorem cnt_lt {S : List Bool} {i : Nat} (hi : i < S.length) (h : ¬ inS S i) : S.countP id < S.length := by
 rcases Nat.lt_or_ge (S.countP id) S.length with h1 | h1
 ·exact h1
 ·exfalso
  have h2 := List.countP_eq_length.1 (Nat.le_antisymm List.countP_le_length h1)
  refine h ?_
  unfold inS
  rw [List.getD_eq_getElem?_getD, List.getElem?_eq_getElem hi]
  exact h2 _ (List.getElem_mem hi)
theorem zIl {S : List Bool} {i : Nat} (hi : i < S.length) (h : ¬ inS S i) : (S.set i true).countP id = S.countP id + 1 := by
 have h2 : S[i] = false := by
  unfold inS at h
  rw [List.getD_eq_getElem?_getD, List.getElem?_eq_getElem hi] at h
  simpa using h
 rw [List.countP_set hi, h2]
 simp
theorem SrH.less {W w : World} {bs : Nat} {a0 : Option Addr} {n cap0 : Nat} {S : List Bool} {O : List Nat} {X Y : List Thing} (h : SrH W w bs a0 n cap0 S O (X ++ Y)) : SrH W w bs a0 n cap0 S O X := by
 obtain ⟨h1, sg, OV, h2⟩ := h
 refine ⟨h1, sg, OV, ?_⟩
 rw [← List.append_assoc] at h2
 exact h2.less
def ExtTo (l : List Dd) (W w' : World) (r : Ending) (bs : Nat) (a0 : Option Addr) (n cap0 : Nat) (S : List Bool) (O : List Nat) (X : List Thing) (R : List Int) : Prop :=
 ∃ b S' O', r = .returned (.bool b) ∧ SrH W w' bs a0 n cap0 S' O' X ∧ (b = true → ∃ s, O' = O ++ s ∧ Lin l (inS S) R s) ∧ (b = false → S' = S ∧ O' = O ∧ ¬ ∃ s, Lin l (inS S) R s)
def NoB (l : List Dd) (S : List Bool) (R : List Int) (j : Nat) : Prop := ∀ (d : Dd) (r : List Int), l[j]? = some d → LFree l (inS S) j d → dDo R (dAns R d) = some r → ¬ ∃ s, Lin l (fun k => inS S k ∨ k = j) r s
theorem zAy (n : Nat) : (madeCells (Value.bool false).cells (n * 1)).toList = (List.replicate n false).map Value.bool := by
 rw [Nat.mul_one, List.map_replicate]
 exact toList_madeCells_one (.bool false) n
end
section
open Go.RowKit
def DoT2 (w w' : World) (a0 : Option Addr) (r : Ending) (o : Option (List Int)) : Prop :=
 Below w.heap.size w w' ∧ ∃ a n c ok, r = .returned (.tuple #[.slice a n c, .bool ok]) ∧ (∀ R, o = some R → ok = true ∧ n = R.length ∧ n ≤ c ∧ IsU w' a R) ∧ (o = none → ok = false) ∧ (ok = true → ∀ k off, a = some ⟨k, off, none⟩ → (∃ off', a0 = some ⟨k, off', none⟩) ∨ w.heap.size ≤ k)
theorem DoT2.to {w w' : World} {a0 : Option Addr} {r : Ending} {o : Option (List Int)} (h : DoT2 w w' a0 r o) : DoTo w w' r o := by
 obtain ⟨h0, a, n, c, ok, h1, h2, h3, _⟩ := h
 exact ⟨h0, a, n, c, ok, h1, h2, h3⟩
theorem zBB {w w' : World} {a0 a : Option Addr} {c : Nat} {R : List Int} {o : Option (List Int)} {n : Nat} (hb : Below w.heap.size w w') (ho : o = some R) (hn : n = R.length) (hc : n ≤ c) (hu : IsU w' a R) (hf : ∀ k off, a = some ⟨k, off, none⟩ → (∃ off', a0 = some ⟨k, off', none⟩) ∨ w.heap.size ≤ k) : DoT2 w w' a0 (.returned (.tuple #[.slice a n c, .bool true])) o := by
 refine ⟨hb, a, n, c, true, rfl, fun R' h => ?_, fun h => ?_, fun _ => hf⟩
 ·rw [ho] at h
  cases h
  exact ⟨rfl, hn, hc, hu⟩
 ·rw [ho] at h
  cases h
theorem zBi {w w' : World} {a0 a : Option Addr} {n c : Nat} {o : Option (List Int)} (hb : Below w.heap.size w w') (ho : o = none) : DoT2 w w' a0 (.returned (.tuple #[.slice a n c, .bool false])) o := by
 refine ⟨hb, a, n, c, false, rfl, fun R' h => ?_, (fun _ => rfl), fun h => Bool.noConfusion h⟩
 rw [ho] at h
 cases h
theorem IsU.own {w : World} {base n cap : Nat} {A : Option Addr} {R : List Int} (h : w.ownsRow base 30 1 (.slice A n cap) n (R.map u64)) : IsU w A R ∧ n = R.length ∧ n ≤ cap := by
 have hl := h.1
 rw [List.length_map, Nat.mul_one] at hl
 refine ⟨fun hp => ?_, hl.symm, ?_⟩
 ·obtain ⟨g, cp, hv, _, hg⟩ := zAt h (by omega)
  cases hv
  exact ⟨g, 0, rfl, hg, fun i hi => by rw [Nat.zero_add]; exact zGk (k := .u64) h (by omega)⟩
 ·rcases Nat.eq_zero_or_pos n with h0 | h0
  ·omega
  ·obtain ⟨g, cp, hv, hc, _⟩ := zAt h h0
   cases hv
   exact hc
theorem IsU.toSrc {w : World} {a : Option Addr} {R : List Int} (h : IsU w a R) : Src w 1 a R.length (R.map u64) := by
 refine ⟨fun h0 => ?_, by rw [List.length_map, Nat.mul_one], fun ad had j u hj => ?_, fun u hu => by obtain ⟨x, _, rfl⟩ := List.mem_map.1 hu; rfl⟩
 ·rcases Nat.eq_zero_or_pos R.length with h1 | h1
  ·exact h1
  ·obtain ⟨g, off, h2, _⟩ := h h1
   rw [h0] at h2
   cases h2
 ·have hp : 0 < R.length := by
   have := (List.getElem?_eq_some_iff.1 hj).1
   rw [List.length_map] at this
   omega
  obtain ⟨ad', h1, h2⟩ := h.src hp
  rw [had] at h1
  cases h1
  exact h2 j u hj
theorem zIp (w : World) (x : Int) (base : Nat) (hb : base ≤ w.heap.size) : (w.alloc (.cells #[.int .u64 x] 30)).ownsRow base 30 1 (.slice (some ⟨w.heap.size, 0, none⟩) 1 1) 1 [u64 x] :=
 zHH (L := [u64 x]) (heap_alloc_new w _) rfl hb (by unfold maxLen; omega)
theorem ap1 {base g c n : Nat} {W1 w4 : World} {v1 : Value} {xs : List Value} (hG : Grew W1 w4 base 30 1 (.slice (some ⟨g, 0, none⟩) 0 c) v1 n xs) (p : Addr) (u : Value) (hp : p.block ≠ g) (hc : W1.cell? p = some u) : w4.cell? p = some u :=
 hG.grown.cell hc (fun h => hp (Option.some.inj h))
theorem zGo {W : World} {b : Nat} {x : Int} (h : W.cell? ⟨b, 0, none⟩ = some (u64 x)) : Src W 1 (some ⟨b, 0, none⟩) 1 [u64 x] :=
 ⟨(fun h => by cases h), rfl, fun ad had j u hj => by
  cases had
  rw [zA2, Nat.zero_add]
  have hj1 := (List.getElem?_eq_some_iff.1 hj).1
  obtain rfl : j = 0 := by simp at hj1; omega
  cases hj
  exact h, zEy .u64 x⟩
theorem zID (W : World) (x : Int) (ty : TypeId) : Src (W.alloc (.cells #[.int .u64 x] ty)) 1 (some ⟨W.heap.size, 0, none⟩) 1 [u64 x] := zGo (by simp)
theorem zDh {W : World} {base n : Nat} {v : Value} {xs : List Value} (o : Obj) (h : W.ownsRow base 30 1 v n xs) : (W.alloc o).ownsRow base 30 1 v n xs :=
 (Keep.of_below (T := fun _ => False) (zAA (Below.refl _ _) _)).row h (fun _ _ h => h)
theorem mk0 {W : World} {g base : Nat} (hg : W.heap.size = g) (hb : base ≤ g) : (W.alloc (.cells #[] 30)).ownsRow base 30 1 (.slice (some ⟨g, 0, none⟩) 0 0) 0 [] := by
 subst hg
 exact World.ownsRow_made (base := base) (e := 30) (size := 1) W #[] 0 hb (by unfold maxLen; omega) (by simp)
theorem zHp {w4 : World} {base : Nat} {v : Value} {R : List Int} (h : w4.ownsRow base 30 1 v (0 + R.length) ([] ++ R.map u64)) : ∃ A c, v = .slice A R.length c ∧ w4.ownsRow base 30 1 (.slice A R.length c) R.length (R.map u64) := by
 rw [Nat.zero_add, List.nil_append] at h
 obtain ⟨A, c, rfl⟩ := zAK h
 exact ⟨A, c, rfl, h⟩
theorem zHY {w4 : World} {base n : Nat} {v : Value} {R : List Int} {x : Int} (h : w4.ownsRow base 30 1 v n (R.map u64 ++ [u64 x])) : ∃ A c, v = .slice A n c ∧ IsU w4 A (R ++ [x]) ∧ n = (R ++ [x]).length ∧ n ≤ c ∧ ∀ k off, A = some ⟨k, off, none⟩ → base ≤ k := by
 obtain ⟨A, c, rfl⟩ := zAK h
 have h' : w4.ownsRow base 30 1 (.slice A n c) n ((R ++ [x]).map u64) := by rw [List.map_append]; exact h
 obtain ⟨h1, h2, h3⟩ := IsU.own h'
 exact ⟨A, c, rfl, h1, h2, h3, fun k off hk => by subst hk; exact (h'.lt k rfl).1⟩
theorem zB6 {w W w4 : World} {v v' : Value} {n m : Nat} {xs ys : List Value} (hb : Below w.heap.size w W) (ho : W.ownsRow w.heap.size 30 1 v m ys) (hG : Grew W w4 w.heap.size 30 1 v v' n xs) : Below w.heap.size w w4 :=
 zAT hb (Keep.of_grown (T := fun k => w.heap.size ≤ k) hG.grown (fun k hk => (ho.lt k hk).1)) hb.size (fun i hi => hi)
theorem zIK (w : World) (a : Option Addr) (cap : Nat) (R : List Int) (d : Dd) (h : IsU w a R) (hc : R.length ≤ cap) (hn : R.length ≤ 900000) :
  Calls Tryz.prog 53 #[.slice a R.length cap, d.val] w fun r w' => DoT2 w w' a r (dDo R d) := by
 have HU := zJH h
 clear h
 obtain ⟨who, kd, e, x, st, fr, till, ok, v, lo, hi⟩ := d
 have HB := zJH (zAA (Below.refl w.heap.size w) (Dd.obj ⟨who, kd, e, x, st, fr, till, ok, v, lo, hi⟩ 76))
 by_cases hk : kd = 0
 case pos =>
  subst hk
  cases ok
  case false =>
   have HD : Hid (dDo R ⟨who, 0, e, x, st, fr, till, false, v, lo, hi⟩ = _) := dDo_pn (row := R) rfl rfl
   go_enter Tryz.func53, Tryz.ntmps53
   go_wp2_with fail
   go_ret2
   exact zBB HB.out HD.out rfl hc (HU.out.later HB.out) (fun k off h => .inl ⟨off, h⟩)
  case true =>
   have HD : Hid (dDo R ⟨who, 0, e, x, st, fr, till, true, v, lo, hi⟩ = _) := dDo_p (row := R) rfl rfl
   by_cases he : e = 0
   case pos =>
    subst he
    have HBX := zJH (zAA HB.out (.cells #[.int .u64 x] 30))
    have hro := zIp (w.alloc (Dd.obj ⟨who, 0, 0, x, st, fr, till, true, v, lo, hi⟩ 76)) x w.heap.size HB.out.size
    rw [World.size_alloc] at hro
    have HRO := zJH hro
    clear hro
    have HSRC := zJH (HU.out.later HBX.out).toSrc
    go_enter Tryz.func53, Tryz.ntmps53
    go_wp2_with (at_builtin; refine zAI rfl _ _ 105 rfl w.heap.size 30 _ 1 8 zAp _ 1 [u64 x] rfl HRO.out a R.length cap (R.map u64) rfl HSRC.out (by unfold maxLen; omega) (by omega) HBX.out.size ?_; intro v' w4 hG)
    obtain ⟨A, cp, rfl⟩ := zAK hG.own
    have HB4 := zJH (zB6 HBX.out HRO.out hG)
    have HUO := zJH (show (IsU w4 A (x :: R) ∧ _ ∧ _) ∧ ∀ k off, A = some ⟨k, off, none⟩ → w.heap.size ≤ k from ⟨IsU.own (R := x :: R) hG.own, fun k off h => by subst h; exact (hG.own.lt k rfl).1⟩)
    clear hG
    go_wp2_with fail
    go_ret2
    exact zBB HB4.out HD.out HUO.out.1.2.1 HUO.out.1.2.2 HUO.out.1.1 (fun k off h => .inr (HUO.out.2 k off h))
   case neg =>
    have p2 : (e == 0) = false := beq_false_of_ne he
    rw [if_neg he] at HD
    clear he
    have HSRC := zJH (fun (W' : World) (hb : Below w.heap.size w W') => (HU.out.later hb).toSrc)
    go_enter Tryz.func53, Tryz.ntmps53
    go_wp2_with fail
    go_region_law (first
     | (refine zAb rfl _ _ 105 rfl w.heap.size 30 _ 1 8 zAp (.slice (some ⟨_, 0, none⟩) 0 0) 0 [] rfl ?_ a R.length cap (R.map u64) rfl ?_ (by unfold maxLen; omega) (by omega) ?_ ?_; (focus (first | exact mk0 (by simp) (by omega) | exact zDh _ (mk0 (by simp) (by omega)))); (focus exact HSRC.out _ (by repeat (first | exact Below.refl _ _ | refine zAA ?_ _ | refine Below.drew ?_))); (focus (simp; omega)); intro v1 w4 hG1; have hK1 := ap1 hG1; have c3' := hK1 ⟨w.heap.size, 3, none⟩ (u64 x) (by simp <;> omega) (by simp [go_sem]); replace hK1 := zJH hK1; have hB4 := zB6 (by repeat (first | exact Below.refl _ _ | refine zAA ?_ _ | refine Below.drew ?_)) (by first | exact mk0 (by simp) (by omega) | exact zDh _ (mk0 (by simp) (by omega))) hG1; replace hB4 := zJH hB4; obtain ⟨A1, cp1, rfl, hO1⟩ := zHp hG1.own; replace hO1 := zJH hO1; clear hG1)
     | (refine zAb rfl _ _ 105 rfl w.heap.size 30 _ 1 8 zAp (.slice A1 R.length cp1) R.length (R.map u64) rfl ?_ (some ⟨_, 0, none⟩) 1 1 [u64 x] rfl ?_ (by unfold maxLen; omega) (by omega) ?_ ?_; (focus (first | exact hO1.out | exact zDh _ hO1.out)); (focus (first | exact zID _ _ _ | exact zGo (hK1.out _ _ (by simp <;> omega) (by simp [go_sem])))); (focus (have := hB4.out.size; first | exact this | (simp; omega))); intro v2 w5 hG2; have hB5 := zJH (zB6 (by first | exact hB4.out | exact zAA hB4.out _) (by first | exact hO1.out | exact zDh _ hO1.out) hG2); obtain ⟨A2, cp2, rfl, hU2⟩ := zHY hG2.own; replace hU2 := zJH hU2; clear hG2))
    all_goals
     go_wp2
     go_ret2
     exact zBB hB5.out HD.out hU2.out.2.1 hU2.out.2.2.1 hU2.out.1 (fun k off h => .inr (hU2.out.2.2.2 k off h))
 case neg =>
  have p1 : (kd == 0) = false := beq_false_of_ne hk
  cases ok
  case false =>
   have HD : Hid (dDo R ⟨who, kd, e, x, st, fr, till, false, v, lo, hi⟩ = _) := dDo_gn (row := R) hk rfl
   clear hk
   by_cases hr : R.length = 0
   case pos =>
    obtain rfl := List.eq_nil_of_length_eq_zero hr
    show Calls _ _ #[.slice a 0 cap, _] _ _
    clear hr
    go_enter Tryz.func53, Tryz.ntmps53
    go_wp2_with fail
    go_ret2
    exact zBB HB.out HD.out rfl (Nat.zero_le _) (HU.out.later HB.out) (fun k off h => .inl ⟨off, h⟩)
   case neg =>
    have p2 : ((R.length : Int) == 0) = false := beq_false_of_ne (by omega)
    have HN := zJH hr
    clear hr
    go_enter Tryz.func53, Tryz.ntmps53
    go_wp2_with fail
    go_ret2
    exact zBi HB.out (HD.out.trans (if_neg (fun h => HN.out (by rw [h]; rfl))))
  case true =>
   rcases Nat.eq_zero_or_pos R.length with hr | hr
   case inl =>
    obtain rfl := List.eq_nil_of_length_eq_zero hr
    show Calls _ _ #[.slice a 0 cap, _] _ _
    have HD : Hid (dDo [] ⟨who, kd, e, x, st, fr, till, true, v, lo, hi⟩ = none) := zIX hk rfl (fun h => h.1 rfl)
    clear hr hk
    go_enter Tryz.func53, Tryz.ntmps53
    go_wp2_with fail
    go_ret2
    exact zBi HB.out HD.out
   case inr =>
    have hne : R ≠ [] := List.length_pos_iff.1 hr
    obtain ⟨g, off, rfl, hg, hcell⟩ := HU.out hr
    have hB0 := HB.out
    have c0 := (hB0.cell (p := ⟨g, off, none⟩) hg).trans (hcell 0 hr)
    have cl := (hB0.cell (p := ⟨g, off + (R.length - 1), none⟩) hg).trans (hcell (R.length - 1) (by omega))
    have p2 : ((R.length : Int) == 0) = false := beq_false_of_ne (by omega)
    have q1 : (1 : Int) ≤ (R.length : Int) := by omega
    have HR := zJH hne
    have HK := zJH hk
    have HX := zJH hr
    have HC := zJH hc
    have HO := zJH (fun (h : R ≠ [] ∧ stV R e = v) => dDo_g (d := ⟨who, kd, e, x, st, fr, till, true, v, lo, hi⟩) hk rfl h)
    have HOO := zJH (fun (h : ¬ (R ≠ [] ∧ stV R e = v)) => zIX (d := ⟨who, kd, e, x, st, fr, till, true, v, lo, hi⟩) hk rfl h)
    have q0 : (0 : Int) < (R.length : Int) := by omega
    clear hcell hne hk hB0
    by_cases he : e = 0
    case pos =>
     subst he
     have hst : stV R 0 = R.getD 0 0 := by unfold stV; rw [if_neg HR.out, if_pos rfl]
     have HST := zJH hst
     have HF : Hid (∀ (b : Bool) (w' : World), Below w.heap.size w w' → (b = true ↔ R.getD 0 0 = v) → ∀ A c', ((A = some ⟨g, off + 1, none⟩ ∧ c' = cap - 1) ∨ (cap = 1 ∧ A = some ⟨g, off, none⟩)) → DoT2 w w' (some ⟨g, off, none⟩) (.returned (.tuple #[.slice A (R.length - 1) c', .bool b])) (dDo R ⟨who, kd, 0, x, st, fr, till, true, v, lo, hi⟩)) := fun b w' hb' hbv A c' hA => by
      cases b with
      | false => exact zBi hb' (HOO.out (fun h => Bool.noConfusion (hbv.2 (HST.out.symm.trans h.2))))
      | true =>
       refine zBB (R := R.drop 1) hb' (HO.out ⟨HR.out, HST.out.trans (hbv.1 rfl)⟩) (by rw [List.length_drop]) (by have := HC.out; omega) ?_ (fun k o h => by rcases hA with ⟨rfl, _⟩ | ⟨_, rfl⟩ <;> (cases h; exact .inl ⟨_, rfl⟩))
       rcases hA with ⟨rfl, rfl⟩ | ⟨hA, _⟩
       ·exact IsU.tail (HU.out.later hb')
       ·rw [List.drop_of_length_le (by have := HC.out; omega)]
        exact IsU.nil _ _
     clear hst cl HO HOO HST HU
     generalize R.getD 0 0 = y at c0 HF
     generalize R.length = ls at *
     by_cases hyv : y = v
     case pos =>
      subst hyv
      go_enter Tryz.func53, Tryz.ntmps53
      go_wp2_with fail
      refine zAO ((0, true) :: (1, true) :: (2, true) :: (3, true) :: (4, true) :: (5, true) :: (6, true) :: (7, true) :: (8, true) :: (9, true) :: (10, true) :: []) (by kernel_rfl) (by kernel_rfl) (by kernel_rfl) (by decide) (fun _ _ _ _ _ h => h) (fun hHeld => ?_)
      repeat (first
       | (refine zAD (v := ?_) rfl ?_ ?_ ?_; rotate_left 1; rfl; (focus (intro wS hSw; have hk := zAL hSw; go_simp; first | done | with_reducible rfl)); (try simp only [Act.put, qset]))
       | (refine zAC rfl ?_ ?_; rfl; (try simp only [Act.put, qset]))
       | (refine zAH rfl (fun K hK => ?_); go_simp; (try skip); (try go_wp2_with fail); refine hK.out _ _ ?_ ?_; (focus (first | exact zAB hHeld hb' | exact zAA hHeld _ | exact hHeld)); (try clear hb'); clear hHeld hK K; intro hHeld; (try simp only [Act.put, qset])))
      first | refine zAJ ?_ | skip
      all_goals
       have HB2 := zJH (zAB HB.out hHeld)
       clear hHeld
       go_wp2_with fail
       all_goals
        go_ret2
        refine HF.out true _ HB2.out (by first | exact ⟨fun _ => rfl, fun _ => rfl⟩ | simp) _ _ ?_
        first | exact .inl ⟨rfl, rfl⟩ | exact .inr ⟨by omega, rfl⟩
     case neg =>
      have e3 : (y == v) = false := beq_false_of_ne hyv
      have HYV := zJH hyv
      clear hyv
      go_enter Tryz.func53, Tryz.ntmps53
      go_wp2_with fail
      refine zAO ((0, true) :: (1, true) :: (2, true) :: (3, true) :: (4, true) :: (5, true) :: (6, true) :: (7, true) :: (8, true) :: (9, true) :: (10, true) :: []) (by kernel_rfl) (by kernel_rfl) (by kernel_rfl) (by decide) (fun _ _ _ _ _ h => h) (fun hHeld => ?_)
      repeat (first
       | (refine zAD (v := ?_) rfl ?_ ?_ ?_; rotate_left 1; rfl; (focus (intro wS hSw; have hk := zAL hSw; go_simp; first | done | with_reducible rfl)); (try simp only [Act.put, qset]))
       | (refine zAC rfl ?_ ?_; rfl; (try simp only [Act.put, qset]))
       | (refine zAH rfl (fun K hK => ?_); go_simp; (try skip); (try go_wp2_with fail); refine hK.out _ _ ?_ ?_; (focus (first | exact zAB hHeld hb' | exact zAA hHeld _ | exact hHeld)); (try clear hb'); clear hHeld hK K; intro hHeld; (try simp only [Act.put, qset])))
      first | refine zAJ ?_ | skip
      all_goals
       have HB2 := zJH (zAB HB.out hHeld)
       clear hHeld
       go_wp2_with fail
       all_goals
        go_ret2
        refine HF.out false _ HB2.out ⟨fun h => Bool.noConfusion h, fun h => absurd h HYV.out⟩ _ _ ?_
        first | exact .inl ⟨rfl, rfl⟩ | exact .inr ⟨by omega, rfl⟩
    case neg =>
     have p3 : (e == 0) = false := beq_false_of_ne he
     have hst : stV R e = R.getD (R.length - 1) 0 := by unfold stV; rw [if_neg HR.out, if_neg he]
     have HST := zJH hst
     have HE := zJH he
     have HF : Hid (∀ (b : Bool) (w' : World), Below w.heap.size w w' → (b = true ↔ R.getD (R.length - 1) 0 = v) → DoT2 w w' (some ⟨g, off, none⟩) (.returned (.tuple #[.slice (some ⟨g, off, none⟩) (R.length - 1) cap, .bool b])) (dDo R ⟨who, kd, e, x, st, fr, till, true, v, lo, hi⟩)) := fun b w' hb' hbv => by
      cases b with
      | false => exact zBi hb' (HOO.out (fun h => Bool.noConfusion (hbv.2 (HST.out.symm.trans h.2))))
      | true => exact zBB (R := R.take (R.length - 1)) hb' ((HO.out ⟨HR.out, HST.out.trans (hbv.1 rfl)⟩).trans (congrArg some (if_neg HE.out))) (by rw [List.length_take]; omega) (by have := HC.out; omega) ((HU.out.later hb').init _) (fun k o h => .inl ⟨o, h⟩)
     clear hst c0 HO HOO HST HU he
     generalize R.getD (R.length - 1) 0 = y at cl HF
     obtain ⟨m, hm⟩ : ∃ m, R.length = m + 1 := ⟨R.length - 1, by omega⟩
     rw [show R.length - 1 = m by omega] at cl HF
     have hw : IntKind.i64.wrap ((R.length : Int) - 1) = (m : Int) := by rw [IntWalk.i64_in _ (by omega)]; omega
     have q3 : (m : Int) < (R.length : Int) := by omega
     have q4 : (m : Int) ≤ (cap : Int) := by omega
     clear hm
     generalize R.length = ls at *
     by_cases hyv : y = v
     case pos =>
      subst hyv
      go_enter Tryz.func53, Tryz.ntmps53
      go_wp2_with fail
      refine zAO ((0, true) :: (1, true) :: (2, true) :: (3, true) :: (4, true) :: (5, true) :: (6, true) :: (7, true) :: (8, true) :: (9, true) :: (10, true) :: (11, true) :: (12, true) :: (13, true) :: (14, true) :: []) (by kernel_rfl) (by kernel_rfl) (by kernel_rfl) (by decide) (fun _ _ _ _ _ h => h) (fun hHeld => ?_)
      repeat (first
       | (refine zAD (v := ?_) rfl ?_ ?_ ?_; rotate_left 1; rfl; (focus (intro wS hSw; have hk := zAL hSw; go_simp; first | done | with_reducible rfl)); (try simp only [Act.put, qset]))
       | (refine zAC rfl ?_ ?_; rfl; (try simp only [Act.put, qset]))
       | (refine zAH rfl (fun K hK => ?_); go_simp; (try skip); (try go_wp2_with fail); refine hK.out _ _ ?_ ?_; (focus (first | exact zAB hHeld hb' | exact zAA hHeld _ | exact hHeld)); (try clear hb'); clear hHeld hK K; intro hHeld; (try simp only [Act.put, qset])))
      first | refine zAJ ?_ | skip
      have HB2 := zJH (zAB HB.out hHeld)
      clear hHeld
      go_wp2_with fail
      go_ret2
      exact HF.out true _ HB2.out (by first | exact ⟨fun _ => rfl, fun _ => rfl⟩ | simp)
     case neg =>
      have e3 : (y == v) = false := beq_false_of_ne hyv
      have HYV := zJH hyv
      clear hyv
      go_enter Tryz.func53, Tryz.ntmps53
      go_wp2_with fail
      refine zAO ((0, true) :: (1, true) :: (2, true) :: (3, true) :: (4, true) :: (5, true) :: (6, true) :: (7, true) :: (8, true) :: (9, true) :: (10, true) :: (11, true) :: (12, true) :: (13, true) :: (14, true) :: []) (by kernel_rfl) (by kernel_rfl) (by kernel_rfl) (by decide) (fun _ _ _ _ _ h => h) (fun hHeld => ?_)
      repeat (first
       | (refine zAD (v := ?_) rfl ?_ ?_ ?_; rotate_left 1; rfl; (focus (intro wS hSw; have hk := zAL hSw; go_simp; first | done | with_reducible rfl)); (try simp only [Act.put, qset]))
       | (refine zAC rfl ?_ ?_; rfl; (try simp only [Act.put, qset]))
       | (refine zAH rfl (fun K hK => ?_); go_simp; (try skip); (try go_wp2_with fail); refine hK.out _ _ ?_ ?_; (focus (first | exact zAB hHeld hb' | exact zAA hHeld _ | exact hHeld)); (try clear hb'); clear hHeld hK K; intro hHeld; (try simp only [Act.put, qset])))
      first | refine zAJ ?_ | skip
      have HB2 := zJH (zAB HB.out hHeld)
      clear hHeld
      go_wp2_with fail
      go_ret2
      exact HF.out false _ HB2.out ⟨fun h => Bool.noConfusion h, fun h => absurd h HYV.out⟩
theorem zIt (w : World) (a : Option Addr) (cap : Nat) (R : List Int) (d : Dd) (h : IsU w a R) (hc : R.length ≤ cap) (hn : R.length ≤ 900000) :
  Calls Tryz.prog 53 #[.slice a R.length cap, d.val] w fun r w' => DoTo w w' r (dDo R d) := (zIK w a cap R d h hc hn).mono fun _ _ h => h.to
end
section
open Go.RowKit
def exA : Dd := ⟨0, 0, 1, 1, 0, 0, 3, true, 0, 0, 0⟩
def exB : Dd := ⟨1, 0, 1, 2, 0, 1, 2, true, 0, 0, 0⟩
def exG : Dd := ⟨0, 1, 1, 0, 0, 4, 5, true, 1, 0, 0⟩
def exL : List Dd := [exA, exB, exG]
end
section
open Go.RowKit
def OwnD (w W : World) (v : Value) (n : Nat) (L : List Dd) : Prop := L.length = n ∧ Below w.heap.size w W ∧ W.ownsRow w.heap.size 76 11 v n (flatD L)
section
variable {w W W' : World} {v v' : Value} {n : Nat} {L : List Dd} {d : Dd}
theorem OwnD.later (h : OwnD w W v n L) (e : Below W.heap.size W W') : OwnD w W' v n L :=
 ⟨h.1, zAB h.2.1 e, (Keep.of_below (T := fun _ => False) e).row h.2.2 (fun _ _ h => h)⟩
theorem OwnD.set (h : OwnD w W v n L) {B : Nat} (hB : ∀ k, v.ownBlock = some k → k ≠ B) (hw : w.heap.size ≤ B) (j : Nat) (u : Value) : OwnD w (W.setCell ⟨B, j, none⟩ u) v n L :=
 ⟨h.1, zAF h.2.1 hw u, ((Keep.refl (fun k => k = B) W).setCell ⟨B, j, none⟩ rfl u).row h.2.2 hB⟩
theorem OwnD.nil (h : Below w.heap.size w W) : OwnD w (W.alloc (.cells #[] 76)) (.slice (some ⟨W.heap.size, 0, none⟩) 0 0) 0 [] :=
 ⟨rfl, zAA h _, World.ownsRow_made (base := w.heap.size) (e := 76) (size := 11) W #[] 0 h.size (by unfold maxLen; omega) (by simp)⟩
theorem OwnD.grew (h : OwnD w W v n L) (hG : Grew W W' w.heap.size 76 11 v v' (n + 1) (flatD L ++ d.list)) : OwnD w W' v' (n + 1) (L ++ [d]) := by
 refine ⟨by rw [List.length_append, List.length_singleton, h.1], zAT h.2.1 (Keep.of_grown (T := fun k => w.heap.size ≤ k) hG.grown (fun k hk => (h.2.2.lt k hk).1)) h.2.1.size (fun i hi => hi), ?_⟩
 rw [zBJ]
 have := hG.own
 simpa [flatD] using this
end
end
section
open Go.RowKit
theorem zDd (w : World) (a : Option Addr) (cap : Nat) (R : List Int) (d : Dd) (h : IsU w a R) (hc : R.length ≤ cap) (hn : R.length ≤ 1000000) (he : d.e = 0 ∨ d.e = 1) :
  Calls Tryz.prog 54 #[.slice a R.length cap, d.val] w fun r w' => r = .returned (dAns R d).val ∧ Below w.heap.size w w' := by
 have HU := zJH h
 by_cases ht : 0 ≤ d.till
 case pos =>
  have HB := zJH (zAA (zAA (Below.refl w.heap.size w) (d.obj 76)) (d.obj 76))
  have e1 : decide (0 ≤ d.till) = true := decide_eq_true ht
  have HA : Hid (dAns R d = d) := if_pos ht
  clear ht h
  go_enter Tryz.func54, Tryz.ntmps54
  go_wp2_with fail
  rw [HA.out]
  exact bodyPost_ret (v := d.val) (by simp [results, Tryz.results54, go_sem]) rfl ⟨rfl, HB.out⟩
 case neg =>
  have e1 : decide (0 ≤ d.till) = false := decide_eq_false ht
  by_cases hk : d.kd = 1
  case neg =>
   have HB := zJH (zAA (zAA (Below.refl w.heap.size w) (Dd.obj { d with ok := true, v := 0, lo := 0, hi := 0 } 76)) (Dd.obj { d with ok := true, v := 0, lo := 0, hi := 0 } 76))
   have p1 : (d.kd == 1) = false := beq_false_of_ne hk
   have HA : Hid (dAns R d = { d with ok := true, v := 0, lo := 0, hi := 0 }) := by
    show _ = _
    unfold dAns
    rw [if_neg ht, if_neg (fun h => hk h.1)]
   clear ht hk he h
   go_enter Tryz.func54, Tryz.ntmps54
   go_wp2_with fail
   rw [HA.out]
   exact bodyPost_ret (v := Dd.val { d with ok := true, v := 0, lo := 0, hi := 0 }) (by simp [results, Tryz.results54, go_sem]) rfl ⟨rfl, HB.out⟩
  case pos =>
   have p1 : (d.kd == 1) = true := beq_iff_eq.2 hk
   rcases Nat.eq_zero_or_pos R.length with h0 | hp
   case inl =>
    obtain rfl := List.eq_nil_of_length_eq_zero h0
    have HB := zJH (zAA (zAA (Below.refl w.heap.size w) (Dd.obj { d with ok := true, v := 0, lo := 0, hi := 0 } 76)) (Dd.obj { d with ok := true, v := 0, lo := 0, hi := 0 } 76))
    have HA : Hid (dAns [] d = { d with ok := true, v := 0, lo := 0, hi := 0 }) := by
     show _ = _
     unfold dAns
     rw [if_neg ht, if_neg (fun h => h.2 rfl)]
    show Calls _ _ #[.slice a 0 cap, _] _ _
    clear ht hk he h h0
    go_enter Tryz.func54, Tryz.ntmps54
    go_wp2_with fail
    rw [HA.out]
    exact bodyPost_ret (v := Dd.val { d with ok := true, v := 0, lo := 0, hi := 0 }) (by simp [results, Tryz.results54, go_sem]) rfl ⟨rfl, HB.out⟩
   case inr =>
    have hne : R ≠ [] := List.length_pos_iff.1 hp
    obtain ⟨g, off, rfl, hg, hcell⟩ := h hp
    have c0 := hcell 0 hp
    rw [Nat.add_zero] at c0
    have cl := hcell (R.length - 1) (by omega)
    have HAS : Hid (dAns R d = { d with ok := true, v := stV R d.e, lo := 0, hi := 0 }) := by
     show _ = _
     unfold dAns
     rw [if_neg ht, zI2 hk he]
    have hp' : (0 : Int) < (R.length : Int) := by omega
    rcases he with he | he
    case inl =>
     have hst : stV R d.e = R.getD 0 0 := by unfold stV; rw [if_neg hne, if_pos he]
     have p2 : (d.e == 1) = false := beq_false_of_ne (by omega)
     rw [hst] at HAS
     clear hst h ht hk he hcell cl HU hne
     generalize R.getD 0 0 = y at c0 HAS
     have HB := zJH (zAA (zAA (Below.refl w.heap.size w) (Dd.obj { d with ok := true, v := y, lo := 0, hi := 0 } 76)) (Dd.obj { d with ok := true, v := y, lo := 0, hi := 0 } 76))
     rw [HAS.out]
     generalize R.length = ls at *
     go_enter Tryz.func54, Tryz.ntmps54
     go_wp2_with fail
     exact bodyPost_ret (v := Dd.val { d with ok := true, v := y, lo := 0, hi := 0 }) (by simp [results, Tryz.results54, go_sem]) rfl ⟨rfl, HB.out⟩
    case inr =>
     have hst : stV R d.e = R.getD (R.length - 1) 0 := by unfold stV; rw [if_neg hne, if_neg (by omega)]
     have p2 : (d.e == 1) = true := beq_iff_eq.2 he
     rw [hst] at HAS
     clear hst h ht hk he hcell HU hne
     generalize R.getD 0 0 = x at c0
     generalize R.getD (R.length - 1) 0 = y at cl HAS
     have HB := zJH (zAA (zAA (Below.refl w.heap.size w) (Dd.obj { d with ok := true, v := y, lo := 0, hi := 0 } 76)) (Dd.obj { d with ok := true, v := y, lo := 0, hi := 0 } 76))
     rw [HAS.out]
     generalize R.length = ls at *
     go_enter Tryz.func54, Tryz.ntmps54
     go_wp2_with fail
     exact bodyPost_ret (v := Dd.val { d with ok := true, v := y, lo := 0, hi := 0 }) (by simp [results, Tryz.results54, go_sem]) rfl ⟨rfl, HB.out⟩
def IsB (w : World) (a : Option Addr) (S : List Bool) : Prop :=
 0 < S.length → ∃ g off, a = some ⟨g, off, none⟩ ∧ g < w.heap.size ∧ ∀ i, i < S.length → w.cell? ⟨g, off + i, none⟩ = some (.bool (S.getD i false))
theorem IsB.later {w w' : World} {a : Option Addr} {S : List Bool} (h : IsB w a S) (e : Below w.heap.size w w') : IsB w' a S := fun hp => by
 obtain ⟨g, off, h1, h2, h3⟩ := h hp
 exact ⟨g, off, h1, Nat.lt_of_lt_of_le h2 e.size, fun i hi => (e.cell (p := ⟨g, off + i, none⟩) h2).trans (h3 i hi)⟩
theorem IsB.toSrc {w : World} {a : Option Addr} {S : List Bool} (h : IsB w a S) : Src w 1 a S.length (S.map Value.bool) := by
 refine ⟨fun h0 => ?_, by rw [List.length_map, Nat.mul_one], fun ad had j u hj => ?_, fun u hu => by obtain ⟨x, _, rfl⟩ := List.mem_map.1 hu; rfl⟩
 ·rcases Nat.eq_zero_or_pos S.length with h1 | h1
  ·exact h1
  ·obtain ⟨g, off, h2, _⟩ := h h1
   rw [h0] at h2
   cases h2
 ·have hj2 := (List.getElem?_eq_some_iff.1 hj).1
  rw [List.length_map] at hj2
  obtain ⟨g, off, h2, _, h3⟩ := h (by omega)
  rw [had] at h2
  cases h2
  rw [List.getElem?_map] at hj
  obtain ⟨x, hx, rfl⟩ := Option.map_eq_some_iff.1 hj
  rw [zA2, h3 j hj2, List.getD_eq_getElem?_getD, hx]
  rfl
theorem IsB.own {w : World} {base n cap : Nat} {A : Option Addr} {S : List Bool} (h : w.ownsRow base 4 1 (.slice A n cap) n (S.map Value.bool)) : IsB w A S ∧ n = S.length ∧ n ≤ cap := by
 have hl := h.1
 rw [List.length_map, Nat.mul_one] at hl
 refine ⟨fun hp => ?_, hl.symm, ?_⟩
 ·obtain ⟨g, cp, hv, _, hg⟩ := zAt h (by omega)
  cases hv
  exact ⟨g, 0, rfl, hg, fun i hi => by rw [Nat.zero_add]; exact zDY h (by omega)⟩
 ·rcases Nat.eq_zero_or_pos n with h0 | h0
  ·omega
  ·obtain ⟨g, cp, hv, hc, _⟩ := zAt h h0
   cases hv
   exact hc
theorem zF4 {w5 w6 : World} {v6 : Value} {S : List Bool} {k i1 : Nat} (h0 : (w5.alloc (.cells #[] 4)).ownsRow w5.heap.size 4 1 (.slice (some ⟨w5.heap.size, 0, none⟩) 0 0) 0 []) (hG : Grew (w5.alloc (.cells #[] 4)) w6 w5.heap.size 4 1 (.slice (some ⟨w5.heap.size, 0, none⟩) 0 0) v6 (0 + k) ([] ++ S.map Value.bool)) (hk : i1 < k) :
  ∃ g6 k6, v6 = .slice (some ⟨g6, 0, none⟩) k k6 ∧ w6.cell? ⟨g6, i1, none⟩ = some (.bool (S.getD i1 false)) ∧ w6.frozen? ⟨g6, i1, none⟩ = false ∧ Hid (Below w5.heap.size w5 (w6.setCell ⟨g6, i1, none⟩ (.bool true))) ∧ Hid (IsB (w6.setCell ⟨g6, i1, none⟩ (.bool true)) (some ⟨g6, 0, none⟩) (S.set i1 true) ∧ k = (S.set i1 true).length ∧ k ≤ k6) := by
 have hown : w6.ownsRow w5.heap.size 4 1 v6 k (S.map Value.bool) := by have := hG.own; rwa [Nat.zero_add, List.nil_append] at this
 have hbl := zAA (Below.refl w5.heap.size w5) (.cells #[] 4)
 have hb6 : Below w5.heap.size w5 w6 := zAT hbl (Keep.of_grown (T := fun q => w5.heap.size ≤ q) hG.grown (fun q hq => (h0.lt q hq).1)) hbl.size (fun i hi => hi)
 obtain ⟨g6, k6, rfl, hk6, hg6⟩ := zAt hown (by omega)
 have hown7 := (hown.stored i1 (.bool true)).1
 rw [← List.map_set] at hown7
 exact ⟨g6, k6, rfl, zDY hown hk, hown.frozenAt i1, zAF hb6 (p := ⟨g6, i1, none⟩) (hown.lt g6 rfl).1 (.bool true), IsB.own hown7⟩
def SomeC (l : List Dd) (W : World) (a0 : Option Addr) (n cap0 m : Nat) : Prop :=
 ∀ (w : World) (ab : Option Addr) (capb : Nat) (S : List Bool) (a : Option Addr) (cap : Nat) (R : List Int) (bb : Bool), Below W.heap.size W w → S.countP id + m = n → S.length = n → n ≤ capb → R.length ≤ S.countP id → R.length ≤ cap → IsB w ab S → IsU w a R → (bb = true ↔ ∃ s, Lin l (inS S) R s) →
  Calls Tryz.prog 26 #[.slice a0 n cap0, .slice ab n capb, .slice a R.length cap] w fun r w' => r = .returned (.bool bb) ∧ Below w.heap.size w w'
theorem zCG (l : List Dd) (W : World) (a0 : Option Addr) (n cap0 tb off : Nat) (hl : IsDds W a0 n cap0 tb off l) (hn : n ≤ 1000) (he : ∀ d ∈ l, d.e = 0 ∨ d.e = 1) (m : Nat) : SomeC l W a0 n cap0 m := by
 induction m using Nat.strongRecOn with
 | _ m IH =>
 intro w ab capb S a cap R bb hWw hom hSl hcb hRO hcap hB hU hbb
 have HL := zJH hl
 have HI := zJH IH
 have HE := zJH he
 have HWW := zJH hWw
 have HB := zJH hB
 have HU := zJH hU
 have HBB := zJH hbb
 have HSL := zJH hSl
 have hcp := hl.2.1
 have HHB : Hid (∀ w', Below w.heap.size w w' → ∀ i, i < n → ∃ g o, ab = some ⟨g, o, none⟩ ∧ g < w'.heap.size ∧ w'.cell? ⟨g, o + i, none⟩ = some (.bool (S.getD i false))) := fun w' hb' i hi => by
  obtain ⟨g, o, h1, h2, h3⟩ := (HB.out.later hb') (by rw [HSL.out]; omega)
  exact ⟨g, o, h1, h2, h3 i (by rw [HSL.out]; exact hi)⟩
 clear hl IH he hWw hB hU hbb hSl
 go_enter Tryz.func26, Tryz.ntmps26
 go_wp2_with fail
 have HB0 := zJH (Below.refl w.heap.size w)
 go_loopw [7, 20] (fun ov iw wr => ∃ (i : Nat) (y : Bool), i ≤ n ∧ ov = .bool y ∧ iw = .int .i64 i ∧ Hid (Below w.heap.size w wr) ∧ Hid (y = true ↔ ∀ (j : Nat) (d : Dd), j < i → l[j]? = some d → 0 ≤ d.till → inS S j)) (fun _ iw _ => n - (RowKit.intOf iw).toNat)
 case atStart => exact ⟨0, true, Nat.zero_le _, rfl, rfl, HB0, ⟨fun _ j d hj => absurd hj (Nat.not_lt_zero _), fun _ => rfl⟩⟩
 case round =>
  clear HB0
  obtain ⟨i, y, hi, rfl, rfl, HBw, HY⟩ := hrel
  rcases Nat.lt_or_ge i n with hil | hil
  ·have hil' : (i : Int) < (n : Int) := by omega
   obtain ⟨d, hd⟩ : ∃ d, l[i]? = some d := ⟨_, List.getElem?_eq_getElem (by rw [HL.out.1]; exact hil)⟩
   obtain ⟨rfl, htb⟩ := HL.out.2.2.1 (by omega)
   obtain ⟨d0, d1, d2, d3, d4, d5, d6, d7, d8, d9, d10⟩ := ((HL.out.later (HWW.out.trans (HBw.out.mono HWW.out.size)) (fun _ => htb)).2.2.2 i d hd).1
   obtain ⟨g, o, rfl, hg, cb⟩ := HHB.out _ HBw.out i hil
   have HBN := zJH (zAA HBw.out (d.obj 76))
   have HD := zJH hd
   have HSTEP : Hid (∀ z : Bool, (z = true ↔ (y = true ∧ (inS S i ∨ d.till < 0))) → (z = true ↔ ∀ (j : Nat) (e : Dd), j < i + 1 → l[j]? = some e → 0 ≤ e.till → inS S j)) := fun z hz => by
    rw [hz, HY.out]
    constructor
    ·rintro ⟨h1, h2⟩ j e hj he ht
     rcases (by omega : j < i ∨ j = i) with hj | rfl
     ·exact h1 j e hj he ht
     ·rw [HD.out] at he
      cases he
      exact h2.resolve_right (by omega)
    ·intro h
     refine ⟨fun j e hj => h j e (by omega), ?_⟩
     rcases (by omega : d.till < 0 ∨ 0 ≤ d.till) with ht | ht
     ·exact .inr ht
     ·exact .inl (h i d (by omega) HD.out ht)
   clear hd
   cases y
   case false =>
    go_wp2_with fail
    go_roundw
    case rel => exact ⟨i + 1, false, by omega, rfl, by go_num, HBN, HSTEP.out false ⟨fun h => Bool.noConfusion h, fun h => Bool.noConfusion h.1⟩⟩
    case measure => first | omega | (simp [RowKit.intOf]; done) | (simp [RowKit.intOf]; omega)
   case true =>
    cases hs : S.getD i false
    case true =>
     rw [hs] at cb
     have HS := zJH hs
     clear hs
     go_wp2_with fail
     go_roundw
     case rel => exact ⟨i + 1, true, by omega, rfl, by go_num, HBN, HSTEP.out true ⟨fun _ => ⟨rfl, .inl HS.out⟩, fun _ => rfl⟩⟩
     case measure => first | omega | (simp [RowKit.intOf]; done) | (simp [RowKit.intOf]; omega)
    case false =>
     rw [hs] at cb
     have HS := zJH hs
     clear hs
     by_cases ht : d.till < 0
     case pos =>
      have e1 : decide (d.till < 0) = true := decide_eq_true ht
      have HT := zJH ht
      clear ht
      go_wp2_with fail
      go_roundw
      case rel => exact ⟨i + 1, true, by omega, rfl, by go_num, HBN, HSTEP.out true ⟨fun _ => ⟨rfl, .inr HT.out⟩, fun _ => rfl⟩⟩
      case measure => first | omega | (simp [RowKit.intOf]; done) | (simp [RowKit.intOf]; omega)
     case neg =>
      have e1 : decide (d.till < 0) = false := decide_eq_false ht
      have HT := zJH ht
      clear ht
      go_wp2_with fail
      go_roundw
      case rel => exact ⟨i + 1, false, by omega, rfl, by go_num, HBN, HSTEP.out false ⟨fun h => Bool.noConfusion h, fun h => by
       rcases h.2 with h2 | h2
       ·unfold inS at h2
        rw [HS.out] at h2
        cases h2
       ·exact absurd h2 HT.out⟩⟩
      case measure => first | omega | (simp [RowKit.intOf]; done) | (simp [RowKit.intOf]; omega)
  ·obtain rfl : i = n := by omega
   have hnl : ¬ (i : Int) < (i : Int) := by omega
   have HALL : Hid (y = true ↔ ∀ (j : Nat) (d : Dd), l[j]? = some d → 0 ≤ d.till → inS S j) := ⟨fun h j d hd => HY.out.1 h j d (by have := (List.getElem?_eq_some_iff.1 hd).1; have := HL.out.1; omega) hd, fun h => HY.out.2 (fun j d _ hd => h j d hd)⟩
   clear HY
   cases y
   case true =>
    obtain rfl : bb = true := HBB.out.2 ⟨[], .nil (HALL.out.1 (by first | exact rfl | trivial))⟩
    go_wp2_with fail
    go_ret
    exact ⟨rfl, HBw.out⟩
   case false =>
    have hnw : ¬ ∀ (j : Nat) (d : Dd), l[j]? = some d → 0 ≤ d.till → inS S j := fun h => by
     have := HALL.out.2 h
     first | exact Bool.noConfusion this | exact this
    have HW := zJH hnw
    clear hnw HALL
    go_wp2_with fail
    have HB2 := zJH HBw.out
    go_loopw [41] (fun iw wx => ∃ i1 : Nat, i1 ≤ i ∧ iw = .int .i64 i1 ∧ Hid (Below w.heap.size w wx) ∧ Hid (∀ j, j < i1 → NoB l S R j)) (fun iw _ => i - (RowKit.intOf iw).toNat)
    case atStart => exact ⟨0, Nat.zero_le _, rfl, HB2, fun j hj => absurd hj (Nat.not_lt_zero _)⟩
    case round =>
     clear HB2
     obtain ⟨i1, hi1, rfl, HBx, HP⟩ := hrel
     rcases Nat.lt_or_ge i1 i with hil | hil
     ·have hil' : (i1 : Int) < (i : Int) := by omega
      obtain ⟨d, hd⟩ : ∃ d, l[i1]? = some d := ⟨_, List.getElem?_eq_getElem (by rw [HL.out.1]; exact hil)⟩
      obtain ⟨rfl, htb⟩ := HL.out.2.2.1 (by omega)
      obtain ⟨d0, d1, d2, d3, d4, d5, d6, d7, d8, d9, d10⟩ := ((HL.out.later (HWW.out.trans (HBx.out.mono HWW.out.size)) (fun _ => htb)).2.2.2 i1 d hd).1
      obtain ⟨g, o, rfl, hg, cb⟩ := HHB.out _ HBx.out i1 hil
      have HBN := zJH (zAA HBx.out (d.obj 76))
      have HDB := zJH (AtBd.made wr d 76)
      have HD := zJH hd
      have hde := HE.out d (List.mem_of_getElem? hd)
      have HDE := zJH hde
      obtain ⟨y0, hy0⟩ : ∃ y0, S.getD i1 false = y0 := ⟨_, rfl⟩
      have HY0 := zJH hy0
      rw [hy0] at cb
      clear hd hde hy0
      go_wp2_with fail
      have HBI0 := zJH HBN.out
      have HDI0 := zJH HDB.out
      have HFI0 : Hid ((!y0) = true ↔ (¬ inS S i1 ∧ ∀ (k' : Nat) (o' : Dd), k' < 0 → l[k']? = some o' → inS S k' ∨ ¬ dBef o' d)) := by
       constructor
       ·intro h
        refine ⟨fun hh => ?_, fun k' o' hk => absurd hk (Nat.not_lt_zero _)⟩
        unfold inS at hh
        rw [HY0.out] at hh
        rw [hh] at h
        cases h
       ·rintro ⟨h, _⟩
        unfold inS at h
        rw [HY0.out] at h
        cases y0
        ·rfl
        ·exact absurd rfl h
      clear d0 d1 d2 d3 d4 d5 d6 d7 d8 d9 d10 cb HDB HBN hg
      generalize wr.heap.size = B at HDI0 ⊢
      go_loopw [12, 53] (fun fv kw wy => ∃ (k : Nat) (y : Bool), k ≤ i ∧ fv = .bool y ∧ kw = .int .i64 k ∧ Hid (Below w.heap.size w wy) ∧ Hid (AtBd wy B d) ∧ Hid (y = true ↔ (¬ inS S i1 ∧ ∀ (k' : Nat) (o' : Dd), k' < k → l[k']? = some o' → inS S k' ∨ ¬ dBef o' d))) (fun _ kw _ => i - (RowKit.intOf kw).toNat)
      case atStart => exact ⟨0, !y0, Nat.zero_le _, rfl, rfl, HBI0, HDI0, HFI0⟩
      case round =>
       clear HBI0 HDI0 HFI0
       obtain ⟨k, y, hk, rfl, rfl, HBI, HDI, HFI⟩ := hrel
       rcases Nat.lt_or_ge k i with hkl | hkl
       ·have hkl' : (k : Int) < (i : Int) := by omega
        obtain ⟨od, hod⟩ : ∃ d, l[k]? = some d := ⟨_, List.getElem?_eq_getElem (by rw [HL.out.1]; exact hkl)⟩
        obtain ⟨f0, f1, f2, f3, f4, f5, f6, f7, f8, f9, f10⟩ := ((HL.out.later (HWW.out.trans (HBI.out.mono HWW.out.size)) (fun _ => htb)).2.2.2 k od hod).1
        obtain ⟨g2, o2, hgo, hg2, cb⟩ := HHB.out _ HBI.out k hkl
        cases hgo
        have hbn := zAA (Below.refl wr.heap.size wr) (od.obj 76)
        have HBN := zJH (zAB HBI.out hbn)
        have HDN := zJH (HDI.out.later hbn)
        have d5 := HDI.out.c5
        have hBl := HDI.out.lt
        have HOD := zJH hod
        have HSTEP : Hid (∀ z : Bool, (z = true ↔ (y = true ∧ (inS S k ∨ ¬ dBef od d))) → (z = true ↔ (¬ inS S i1 ∧ ∀ (k' : Nat) (o' : Dd), k' < k + 1 → l[k']? = some o' → inS S k' ∨ ¬ dBef o' d))) := fun z hz => by
         rw [hz, HFI.out]
         constructor
         ·rintro ⟨⟨h1, h2⟩, h3⟩
          refine ⟨h1, fun k' o' hk' ho' => ?_⟩
          rcases (by omega : k' < k ∨ k' = k) with hk' | rfl
          ·exact h2 k' o' hk' ho'
          ·rw [HOD.out] at ho'
           cases ho'
           exact h3
         ·rintro ⟨h1, h2⟩
          exact ⟨⟨h1, fun k' o' hk' => h2 k' o' (by omega)⟩, h2 k od (by omega) HOD.out⟩
        clear hod hbn
        cases y
        case false =>
         go_wp2_with fail
         go_roundw
         case rel => exact ⟨k + 1, false, by omega, rfl, by go_num, HBN, HDN, HSTEP.out false ⟨fun h => Bool.noConfusion h, fun h => Bool.noConfusion h.1⟩⟩
         case measure => first | omega | (simp [RowKit.intOf]; done) | (simp [RowKit.intOf]; omega)
        case true =>
         cases hs : S.getD k false
         case true =>
          rw [hs] at cb
          have HS := zJH hs
          clear hs
          go_wp2_with fail
          go_roundw
          case rel => exact ⟨k + 1, true, by omega, rfl, by go_num, HBN, HDN, HSTEP.out true ⟨fun _ => ⟨rfl, .inl HS.out⟩, fun _ => rfl⟩⟩
          case measure => first | omega | (simp [RowKit.intOf]; done) | (simp [RowKit.intOf]; omega)
         case false =>
          rw [hs] at cb
          have HS := zJH hs
          clear hs
          by_cases ht : od.till < 0
          case pos =>
           have e1 : decide (od.till < 0) = true := decide_eq_true ht
           have HT := zJH ht
           clear ht
           go_wp2_with fail
           go_roundw
           case rel => exact ⟨k + 1, true, by omega, rfl, by go_num, HBN, HDN, HSTEP.out true ⟨fun _ => ⟨rfl, .inr (fun h => by have := h.1; have := HT.out; omega)⟩, fun _ => rfl⟩⟩
           case measure => first | omega | (simp [RowKit.intOf]; done) | (simp [RowKit.intOf]; omega)
          case neg =>
           have e1 : decide (od.till < 0) = false := decide_eq_false ht
           have HT := zJH ht
           clear ht
           by_cases hb : d.fr ≤ od.till
           case pos =>
            have e2 : decide (d.fr ≤ od.till) = true := decide_eq_true hb
            have HT2 := zJH hb
            clear hb
            go_wp2_with fail
            go_roundw
            case rel => exact ⟨k + 1, true, by omega, rfl, by go_num, HBN, HDN, HSTEP.out true ⟨fun _ => ⟨rfl, .inr (fun h => by have := h.2; have := HT2.out; omega)⟩, fun _ => rfl⟩⟩
            case measure => first | omega | (simp [RowKit.intOf]; done) | (simp [RowKit.intOf]; omega)
           case neg =>
            have e2 : decide (d.fr ≤ od.till) = false := decide_eq_false hb
            have HT2 := zJH hb
            clear hb
            go_wp2_with fail
            go_roundw
            case rel => exact ⟨k + 1, false, by omega, rfl, by go_num, HBN, HDN, HSTEP.out false ⟨fun h => Bool.noConfusion h, fun h => by
             rcases h.2 with h2 | h2
             ·unfold inS at h2
              rw [HS.out] at h2
              cases h2
             ·exact absurd ⟨by have := HT.out; omega, by have := HT2.out; omega⟩ h2⟩⟩
            case measure => first | omega | (simp [RowKit.intOf]; done) | (simp [RowKit.intOf]; omega)
       ·obtain rfl : k = i := by omega
        have hnk : ¬ (k : Int) < (k : Int) := by omega
        have HFR : Hid (y = true ↔ LFree l (inS S) i1 d) := ⟨fun h => ⟨(HFI.out.1 h).1, fun k' o' ho' => (HFI.out.1 h).2 k' o' (by have := (List.getElem?_eq_some_iff.1 ho').1; have := HL.out.1; omega) ho'⟩, fun h => HFI.out.2 ⟨h.1, fun k' o' _ ho' => h.2 k' o' ho'⟩⟩
        clear HFI
        cases y
        case false =>
         have HNF : Hid (¬ LFree l (inS S) i1 d) := fun h => by
          have := HFR.out.2 h
          first | exact Bool.noConfusion this | exact this
         clear HFR
         go_wp2_with fail
         go_roundw
         case rel =>
          refine ⟨i1 + 1, by omega, by go_num, HBI, fun j hj => ?_⟩
          rcases (by omega : j < i1 ∨ j = i1) with hj | rfl
          ·exact HP.out j hj
          ·intro e r he hf
           rw [HD.out] at he
           cases he
           exact absurd hf HNF.out
         case measure => first | omega | (simp [RowKit.intOf]; done) | (simp [RowKit.intOf]; omega)
        case true =>
         have HF : Hid (LFree l (inS S) i1 d) := HFR.out.1 (by first | exact rfl | trivial)
         clear HFR
         obtain ⟨d0, d1, d2, d3, d4, d5, d6, d7, d8, d9, d10⟩ := HDI.out
         have HUI := zJH (HU.out.later HBI.out)
         go_wp2_with fail
         refine (zDd _ a cap R d HUI.out hcap (by omega) HDE.out).mono ?_
         rintro r w4 ⟨rfl, hb4⟩
         have HB4 := zJH (zAB HBI.out hb4)
         have HU4 := zJH (HUI.out.later hb4)
         clear hb4 d0 d1 d2 d3 d4 d5 d6 d7 d8 d9 d10
         obtain ⟨dA, hdA⟩ : ∃ dA, dAns R d = dA := ⟨_, rfl⟩
         have HDA := zJH hdA
         rw [hdA]
         clear hdA
         go_wp2_with fail
         refine (zIt _ a cap R dA HU4.out hcap (by omega)).mono ?_
         rintro r w5 ⟨hb5, a', n', c', ok, rfl, h1, h2⟩
         have HB5 := zJH (zAB HB4.out hb5)
         cases hdo : dDo R dA
         case none =>
          obtain rfl := h2 hdo
          have HO := zJH hdo
          clear h1 h2 hb5 hdo
          go_wp2_with fail
          go_roundw
          case rel =>
           refine ⟨i1 + 1, by omega, by go_num, HB5, fun j hj => ?_⟩
           rcases (by omega : j < i1 ∨ j = i1) with hj | rfl
           ·exact HP.out j hj
           ·intro e r he hf hr
            rw [HD.out] at he
            cases he
            rw [HDA.out, HO.out] at hr
            cases hr
          case measure => first | omega | (simp [RowKit.intOf]; done) | (simp [RowKit.intOf]; omega)
         case some R' =>
          obtain ⟨rfl, rfl, hnc, hU'⟩ := h1 R' hdo
          have HO := zJH hdo
          have hRl := zI7 hdo
          have HU5 := zJH hU'
          have hbl := zAA (Below.refl w5.heap.size w5) (.cells #[] 4)
          have HBL := zJH hbl
          have HSRC := zJH ((HB.out.later (HB5.out)).later hbl).toSrc
          rw [HSL.out] at HSRC
          have HR0 : Hid ((w5.alloc (.cells #[] 4)).ownsRow w5.heap.size 4 1 (.slice (some ⟨w5.heap.size, 0, none⟩) 0 0) 0 []) := World.ownsRow_made (base := w5.heap.size) (e := 4) (size := 1) w5 #[] 0 (Nat.le_refl _) (by unfold maxLen; omega) (by simp)
          clear h1 h2 hb5 hdo hU' hbl
          go_wp2_with (at_builtin; refine zAI rfl _ _ 64 rfl w5.heap.size 4 _ 1 1 zAY _ 0 [] rfl HR0.out _ k capb (S.map Value.bool) rfl HSRC.out (by unfold maxLen; omega) (by omega) HBL.out.size ?_; intro v6 w6 hG; obtain ⟨g6, k6, rfl, c1, z1, HB7, HIB⟩ := zF4 HR0.out hG hil; clear hG)
          have hin : i1 < S.length := by rw [HSL.out]; exact hil
          have hlt := cnt_lt hin HF.out.1
          have hcs := zIl hin HF.out.1
          have HCS := zJH hcs
          have HLT := zJH hlt
          clear hlt hcs HR0 HBL HSRC
          obtain ⟨b7, hb7⟩ : ∃ b7 : Bool, b7 = true ↔ ∃ s, Lin l (inS (S.set i1 true)) R' s := by
           by_cases hh : ∃ s, Lin l (inS (S.set i1 true)) R' s
           ·exact ⟨true, fun _ => hh, fun _ => rfl⟩
           ·exact ⟨false, fun h => Bool.noConfusion h, fun h => absurd h hh⟩
          have HB7' := zJH hb7
          clear hb7
          refine (HI.out (m - 1) (by have := HLT.out; have := HSL.out; omega) _ _ k6 (S.set i1 true) a' c' R' b7 ((HWW.out.trans (HB5.out.mono HWW.out.size)).trans (HB7.out.mono (Nat.le_trans HWW.out.size HB5.out.size))) (by have := HLT.out; have := HSL.out; have := HCS.out; omega) (by rw [List.length_set]; exact HSL.out) HIB.out.2.2 (by have := HCS.out; omega) hnc HIB.out.1 (HU5.out.later HB7.out) HB7'.out).mono ?_
          rintro r w8 ⟨rfl, hb8⟩
          have HB8 := zJH (zAB HB5.out (zAB HB7.out hb8))
          clear hb8
          cases b7
          case true =>
           obtain rfl : bb = true := HBB.out.2 (zF6.2 (.inr ⟨i1, d, R', HD.out, HF.out, by rw [HDA.out]; exact HO.out, by
            obtain ⟨s, hs⟩ := HB7'.out.1 (by first | exact rfl | trivial)
            exact ⟨s, hs.same (fun q => zGb (by rw [HSL.out]; exact hil) q)⟩⟩))
           go_wp2_with fail
           go_ret
           exact ⟨rfl, HB8.out⟩
          case false =>
           have HNO : Hid (¬ ∃ s, Lin l (inS (S.set i1 true)) R' s) := fun h => by
            have := HB7'.out.2 h
            first | exact Bool.noConfusion this | exact this
           clear HB7'
           go_wp2_with fail
           go_roundw
           case rel =>
            refine ⟨i1 + 1, by omega, by go_num, HB8, fun j hj => ?_⟩
            rcases (by omega : j < i1 ∨ j = i1) with hj | rfl
            ·exact HP.out j hj
            ·intro e r he hf hr hh
             rw [HD.out] at he
             cases he
             rw [HDA.out, HO.out] at hr
             cases hr
             obtain ⟨s, hs⟩ := hh
             exact HNO.out ⟨s, hs.same (fun q => (zGb (by rw [HSL.out]; exact hil) q).symm)⟩
           case measure => first | omega | (simp [RowKit.intOf]; done) | (simp [RowKit.intOf]; omega)
     ·obtain rfl : i1 = i := by omega
      have hnx : ¬ (i1 : Int) < (i1 : Int) := by omega
      obtain rfl : bb = false := by
       cases bb with
       | false => rfl
       | true =>
        exfalso
        rcases zF6.1 (HBB.out.1 rfl) with h | ⟨j, e, r, h1, h2, h3, h4⟩
        ·exact HW.out h
        ·exact HP.out j (by have := (List.getElem?_eq_some_iff.1 h1).1; have := HL.out.1; omega) e r h1 h2 h3 h4
      go_wp2_with fail
      go_ret
      exact ⟨rfl, HBx.out⟩
end
end Go.Proofs.YtpfjommkjkbonaaGreat
