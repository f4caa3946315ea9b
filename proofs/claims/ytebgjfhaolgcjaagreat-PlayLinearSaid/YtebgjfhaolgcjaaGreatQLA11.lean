/- Contracts and plain lemmas that these laws need. No condition. -/
import Derived.Deep.DeepCutAuto
import Derived.Laws.CopyOwn
import Derived.Lib.SlKeysI
import Derived.Maps.OwnOps
import Derived.Maps.OwnSet
import Derived.Maps.RangeWalk
import Derived.Test.YtebgjfhaolgcjaaGreatQLA1
import Derived.Test.YtebgjfhaolgcjaaGreatQLA8
import Derived.Test.YtebgjfhaolgcjaaGreatQLA10
namespace Go.Proofs.YtebgjfhaolgcjaaGreat
set_option linter.unusedVariables false
set_option maxHeartbeats 8000000
set_option maxRecDepth 100000
section
open Go.RowKit
structure IsItem (Y : Nat → Yd) (B : YB) (N m : Nat) (a : It) (d : Dd) (j : Nat) : Prop where
 deed : (Y m).ds[a.i]? = some d
 kd : d.kd = 0
 ok : d.ok = true
 pm : a.p < m
 put : PutAt Y B N a.i d a.p j
 x : a.x = d.x
 k : a.k = pkey d.e d.lo d.hi j
 no : a.tk = none → (Y m).C.getD j 0 = (Y (a.p + 1)).C.getD j 0
 yes : ∀ t, a.tk = some t → ∃ dg, Took Y N m a.p j d.x t.1 t.2.1 t.2.2 dg
section
variable {B : YB} {N m : Nat} {Y : Nat → Yd}
theorem zII (h : YTr B N Y m) {i : Nat} {d : Dd} (hd : (Y m).ds[i]? = some d) (hk : d.kd = 0) (ho : d.ok = true) : ∃ a j, a.i = i ∧ IsItem Y B N m a d j := by
 obtain ⟨p, j, hp, hP⟩ := (h.puts m (Nat.le_refl _)).done i d hd hk ho
 by_cases hs : (Y m).C.getD j 0 = (Y (p + 1)).C.getD j 0
 ·exact ⟨⟨i, pkey d.e d.lo d.hi j, p, d.x, none⟩, j, rfl, hd, hk, ho, hp, hP, rfl, rfl, fun _ => hs, fun t ht => by cases ht⟩
 ·obtain ⟨g, c, s, dg, ht⟩ := ((hP.there h hp (Nat.le_refl _)).resolve_left hs).took h hP
  exact ⟨⟨i, pkey d.e d.lo d.hi j, p, d.x, some (g, c, s)⟩, j, rfl, hd, hk, ho, hp, hP, rfl, rfl, fun hh => (by cases hh), fun t hh => by cases hh; exact ⟨dg, ht⟩⟩
theorem IsItem.word (h : YTr B N Y m) {a : It} {d : Dd} {j : Nat} (ha : IsItem Y B N m a d j) {c : Nat} (h1 : a.p < c) (h2 : ∀ t, a.tk = some t → c ≤ t.2.2) (hc : c ≤ m) : (Y c).C.getD j 0 = (Y (a.p + 1)).C.getD j 0 := by
 cases htk : a.tk with
 | none => exact h.stays ha.put.lt (c := m) (by omega) hc (Nat.le_refl _) (ha.no htk).symm
 | some t =>
  obtain ⟨dg, ht⟩ := ha.yes t htk
  have := ht.sm
  exact h.stays ha.put.lt (c := t.2.2) (by omega) (h2 t htk) (by omega) ht.was.symm
theorem IsItem.wkey (h : YTr B N Y m) {a : It} {d : Dd} {j : Nat} (ha : IsItem Y B N m a d j) {c : Nat} (h1 : a.p < c) (h2 : ∀ t, a.tk = some t → c ≤ t.2.2) (hc : c ≤ m) : wkey ((Y c).C.take N) j = a.k ∧ live ((Y c).C.take N) j := by
 have hw := ha.word h h1 h2 hc
 have e1 := ha.put.word
 have s1 := ha.put.st
 have g1 := ha.put.gen
 have x0 := ha.put.e0
 have x1 := ha.put.e1
 have hl := ha.put.live
 have e2 : ((Y c).C.take N).getD j 0 = (Y (a.p + 1)).C.getD j 0 := by rw [zCM ha.put.lt, hw]
 refine ⟨?_, by unfold live; rw [e2]; exact hl⟩
 show xkey _ _ = _
 rw [e2, ha.k]
 unfold xkey
 rw [show (Y (a.p + 1)).C.getD j 0 / 4 % 2 = d.e by omega, show (Y (a.p + 1)).C.getD j 0 / 65536 % 16777216 = d.lo by omega, show (Y (a.p + 1)).C.getD j 0 / 1099511627776 = d.hi by omega]
theorem zEg (h : YTr B N Y m) {a b : It} {d d' : Dd} {j j' : Nat} (ha : IsItem Y B N m a d j) (hb : IsItem Y B N m b d' j') {g c s : Nat} {x : Int} {dg : Dd} (ht : Took Y N m a.p j x g c s dg) (hk : a.tk = some (g, c, s)) (h1 : b.p < c) (h2 : ∀ t, b.tk = some t → c ≤ t.2.2) :
  if dg.e = 0 then a.k ≤ b.k else b.k ≤ a.k := by
 have k1 := ht.cs
 have k2 := ht.sm
 obtain ⟨wa, _⟩ := ha.wkey h ht.pc (fun t htt => by rw [hk] at htt; cases htt; exact k1) (by omega)
 obtain ⟨wb, lb⟩ := hb.wkey h h1 h2 (by omega)
 rcases ht.isEnd with ⟨e, _⟩ | ⟨i, e1, e2, e3, e4⟩
 ·omega
 ·obtain rfl : i = j := by omega
  have hl : ((Y c).C.take N).length = N := by
   rw [List.length_take]
   have := (h.all c (by omega)).len
   have := h.hT
   omega
  have := e4 j' (by rw [hl]; exact hb.put.lt) lb
  rw [wa, wb] at this
  exact this
theorem dfr (h : YTr B N Y m) {i : Nat} {d : Dd} (hd : (Y m).ds[i]? = some d) : 0 ≤ d.till → d.fr < d.till := fun ht => ((h.all m (Nat.le_refl _)).ok.deed i d hd).2.2.2 (by omega) |>.1
theorem mv_lt (h : YTr B N Y m) {a b : Nat} (ha : a ≤ m) (hl : ((Y a).moves : Int) < (Y b).moves) : a < b := Nat.lt_of_not_le fun hba => by
 have := h.moves hba ha
 omega
theorem zDl (h : YTr B N Y m) {I : List It} (hI : ∀ a ∈ I, ∃ d j, IsItem Y B N m a d j ∧ d.e = 1) (hu : ∀ a ∈ I, ∀ b ∈ I, a.i = b.i → a = b) (hN : N < 1048576) : Its (befL (Y m).ds) I := by
 have hS := (h.all m (Nat.le_refl _)).sok
 have hY := (h.all m (Nat.le_refl _)).ok
 have key : ∀ a ∈ I, ∀ b ∈ I, ∀ d d' j j', IsItem Y B N m a d j → IsItem Y B N m b d' j' → d.till < d'.fr → a.k < b.k := fun a ha b hb d d' j j' pa pb ht => by
  obtain ⟨d1, j1, pa1, ea⟩ := hI a ha
  obtain ⟨d2, j2, pb1, eb⟩ := hI b hb
  have q1 := pa1.deed
  rw [pa.deed] at q1
  cases q1
  have q2 := pb1.deed
  rw [pb.deed] at q2
  cases q2
  have ho := hS.order a.i b.i d d' pa.deed pb.deed pa.kd pa.ok pb.kd pb.ok ht
  have sa := pa.put.st
  have sb := pb.put.st
  have ja := pa.put.lt
  have jb := pb.put.lt
  rw [pa.k, pb.k, ea, eb]
  unfold pkey lkey
  rw [if_neg (by decide), if_neg (by decide)]
  omega
 have tl : ∀ a ∈ I, ∀ d j, IsItem Y B N m a d j → ((Y a.p).moves : Int) = d.till ∧ d.fr < (Y a.p).moves := fun a ha d j pa => by
  have e := pa.put.till
  have := dfr h pa.deed (by omega)
  omega
 refine ⟨fun a ha b hb hbf => ?_, fun a ha b hb t ht hbf => ?_, fun a ha b hb t ht hbf => ?_, fun a ha b hb t u ht hu' hbf => ?_, fun a ha t ht => ?_, fun a ha t ht => ?_, fun a ha b hb o ho ho' => ?_, fun a ha b hb hk => ?_⟩
 ·obtain ⟨d, j, pa, _⟩ := hI a ha
  obtain ⟨d', j', pb, _⟩ := hI b hb
  obtain ⟨x, y, x1, x2, x3, x4⟩ := hbf
  rw [pa.deed] at x1
  rw [pb.deed] at x2
  cases x1
  cases x2
  have t1 := tl a ha d j pa
  have t2 := tl b hb d' j' pb
  exact ⟨key a ha b hb d d' j j' pa pb x4, mv_lt h (by have := pa.pm; omega) (by omega)⟩
 ·obtain ⟨d, j, pa, _⟩ := hI a ha
  obtain ⟨d', j', pb, _⟩ := hI b hb
  obtain ⟨dg, tk⟩ := pb.yes t ht
  obtain ⟨x, y, x1, x2, x3, x4⟩ := hbf
  rw [pa.deed] at x1
  rw [tk.deed] at x2
  cases x1
  cases x2
  have t1 := tl a ha d j pa
  have := tk.fr
  exact mv_lt h (by have := pa.pm; omega) (by omega)
 ·obtain ⟨d, j, pa, _⟩ := hI a ha
  obtain ⟨d', j', pb, _⟩ := hI b hb
  obtain ⟨dg, tk⟩ := pa.yes t ht
  obtain ⟨x, y, x1, x2, x3, x4⟩ := hbf
  rw [tk.deed] at x1
  rw [pb.deed] at x2
  cases x1
  cases x2
  have t1 := tl a ha d j pa
  have t2 := tl b hb d' j' pb
  have k1 := tk.sm
  have k2 := tk.cs
  have k3 := tk.pc
  have hmv := h.moves (show a.p ≤ t.2.2 by omega) (by omega)
  rcases tk.out with q | ⟨_, q, _⟩
  ·omega
  ·exact ⟨mv_lt h (by omega) (by omega), key a ha b hb d d' j j' pa pb (by omega)⟩
 ·obtain ⟨d, j, pa, _⟩ := hI a ha
  obtain ⟨d', j', pb, _⟩ := hI b hb
  obtain ⟨dg, tk⟩ := pa.yes t ht
  obtain ⟨dg', tk'⟩ := pb.yes u hu'
  obtain ⟨x, y, x1, x2, x3, x4⟩ := hbf
  rw [tk.deed] at x1
  rw [tk'.deed] at x2
  cases x1
  cases x2
  have k1 := tk.sm
  have := tk'.fr
  rcases tk.out with q | ⟨_, q, _⟩
  ·omega
  ·exact mv_lt h (by omega) (by omega)
 ·obtain ⟨d, j, pa, _⟩ := hI a ha
  obtain ⟨dg, tk⟩ := pa.yes t ht
  exact ⟨tk.pc, tk.cs⟩
 ·obtain ⟨d, j, pa, _⟩ := hI a ha
  obtain ⟨dg, tk⟩ := pa.yes t ht
  intro e
  have q := tk.deed
  rw [e, pa.deed] at q
  cases q
  have := pa.kd
  have := tk.kd
  omega
 ·obtain ⟨d, j, pa, _⟩ := hI a ha
  obtain ⟨d', j', pb, _⟩ := hI b hb
  rcases It.ops_iff.1 ho with rfl | ⟨t, ht, rfl⟩
  ·rcases It.ops_iff.1 ho' with e | ⟨u, hu', e⟩
   ·exact hu a ha b hb e
   ·obtain ⟨dg, tk⟩ := pb.yes u hu'
    have q := tk.deed
    rw [← e, pa.deed] at q
    cases q
    have := pa.kd
    have := tk.kd
    omega
  ·obtain ⟨dg, tk⟩ := pa.yes t ht
   rcases It.ops_iff.1 ho' with e | ⟨u, hu', e⟩
   ·have q := tk.deed
    rw [e, pb.deed] at q
    cases q
    have := pb.kd
    have := tk.kd
    omega
   ·obtain ⟨dg', tk'⟩ := pb.yes u hu'
    rw [← e] at tk'
    have n1 := zEh h pa.put pb.put tk tk'
    have n2 := zEh h pb.put pa.put tk' tk
    exact hu a ha b hb (zGr h pa.put pb.put tk tk' (by omega)).2.1
 ·obtain ⟨d, j, pa, ea⟩ := hI a ha
  obtain ⟨d', j', pb, eb⟩ := hI b hb
  have sa := pa.put.st
  have sb := pb.put.st
  have ja := pa.put.lt
  have jb := pb.put.lt
  rw [pa.k, pb.k, ea, eb] at hk
  obtain ⟨hj, _, h1, h2⟩ := zEp (.inr rfl) (.inr rfl) (by omega) (by omega) (by omega) (by omega) (by omega) (by omega) (by omega) (by omega) hk
  subst hj
  have s1 := h.cf.lay.s1
  obtain ⟨w, _, r1, _⟩ := pa.put.run
  obtain ⟨w', _, r1', _⟩ := pb.put.run
  have a1 := pa.put.own0
  have a2 := pa.put.own1
  have a3 := pb.put.own0
  have a4 := pb.put.own1
  rw [r1] at a1 a2
  rw [r1'] at a3 a4
  have e1 := zCE s1 a1 a2
  have e2 := zCE s1 a3 a4
  have hw : d.who = d'.who := by rw [r1, r1']; omega
  rcases Nat.lt_trichotomy a.i b.i with hl | he | hl
  ·have := (hY.order a.i b.i d d' hl pa.deed pb.deed).2 hw
   have := hS.order a.i b.i d d' pa.deed pb.deed pa.kd pa.ok pb.kd pb.ok this.2
   omega
  ·exact hu a ha b hb he
  ·have := (hY.order b.i a.i d' d hl pb.deed pa.deed).2 hw.symm
   have := hS.order b.i a.i d' d pb.deed pa.deed pb.kd pb.ok pa.kd pa.ok this.2
   omega
end
end
section
open Go.RowKit
section
variable {B : YB} {N m : Nat} {Y : Nat → Yd}
theorem zGU (h : YTr B N Y m) : ∃ I : List It, (∀ a ∈ I, ∃ d j, IsItem Y B N m a d j) ∧ (∀ (i : Nat) (d : Dd), (Y m).ds[i]? = some d → d.kd = 0 → d.ok = true → ∃ a ∈ I, a.i = i) ∧ ∀ a ∈ I, ∀ b ∈ I, a.i = b.i → a = b := by
 have hex : ∀ i : Nat, ∃ a : It, (∃ d, (Y m).ds[i]? = some d ∧ d.kd = 0 ∧ d.ok = true) → a.i = i ∧ ∃ d j, IsItem Y B N m a d j := fun i => by
  by_cases hq : ∃ d, (Y m).ds[i]? = some d ∧ d.kd = 0 ∧ d.ok = true
  ·obtain ⟨d, h1, h2, h3⟩ := hq
   obtain ⟨a, j, e, ha⟩ := zII h h1 h2 h3
   exact ⟨a, fun _ => ⟨e, d, j, ha⟩⟩
  ·exact ⟨⟨0, 0, 0, 0, none⟩, fun hh => absurd hh hq⟩
 obtain ⟨f, hf⟩ := Classical.axiomOfChoice hex
 have hS : ∀ i, i ∈ (List.range (Y m).ds.length).filter (fun i => ((Y m).ds[i]?).any (fun d => decide (d.kd = 0) && d.ok)) ↔ ∃ d, (Y m).ds[i]? = some d ∧ d.kd = 0 ∧ d.ok = true := fun i => by
  rw [List.mem_filter, List.mem_range]
  constructor
  ·rintro ⟨h1, h2⟩
   rw [List.getElem?_eq_getElem h1] at h2 ⊢
   simp at h2
   exact ⟨_, rfl, h2.1, h2.2⟩
  ·rintro ⟨d, h1, h2, h3⟩
   refine ⟨(List.getElem?_eq_some_iff.1 h1).1, ?_⟩
   rw [h1]
   simp [h2, h3]
 refine ⟨_, fun a ha => ?_, fun i d h1 h2 h3 => ⟨f i, List.mem_map.2 ⟨i, (hS i).2 ⟨d, h1, h2, h3⟩, rfl⟩, (hf i ⟨d, h1, h2, h3⟩).1⟩, fun a ha b hb hab => ?_⟩
 ·obtain ⟨i, hi, rfl⟩ := List.mem_map.1 ha
  exact (hf i ((hS i).1 hi)).2
 ·obtain ⟨i, hi, rfl⟩ := List.mem_map.1 ha
  obtain ⟨i', hi', rfl⟩ := List.mem_map.1 hb
  have e1 := (hf i ((hS i).1 hi)).1
  have e2 := (hf i' ((hS i').1 hi')).1
  have : i = i' := by omega
  rw [this]
structure IsEm (Y : Nat → Yd) (N m : Nat) (e : Em) (d : Dd) : Prop where
 deed : (Y m).ds[e.i]? = some d
 kd : d.kd = 1
 ok : d.ok = false
 till : 0 ≤ d.till
 fr : d.fr < (Y e.c).moves
 le : ((Y e.c).moves : Int) ≤ d.till
 cm : e.c ≤ m
 none : ∀ j, j < N → ¬ (Y e.c).C.getD j 0 % 4 = 1
theorem em_of (h : YTr B N Y m) {i : Nat} {d : Dd} (hd : (Y m).ds[i]? = some d) (hk : d.kd = 1) (ho : d.ok = false) (ht : 0 ≤ d.till) : ∃ e : Em, e.i = i ∧ IsEm Y N m e d := by
 obtain ⟨f, c, b', h1, h2, h3, h4, h5, h6⟩ := ((h.gets m (Nat.le_refl _)).done i d hd hk (by omega)).no ho
 have m1 := h.moves h2 (by omega)
 have m2 := h.moves h3 h4
 refine ⟨⟨i, c⟩, rfl, hd, hk, ho, ht, by show d.fr < (Y c).moves; omega, by show ((Y c).moves : Int) ≤ _; omega, by show c ≤ m; omega, fun j hj hl => ?_⟩
 rcases h6 with ⟨_, hn⟩ | ⟨i', e1, _⟩
 ·refine hn j ?_ ?_
  ·rw [List.length_take]
   have := (h.all c (by omega)).len
   have := h.hT
   omega
  ·unfold live
   rw [zCM hj]
   exact hl
 ·omega
theorem zH0 (h : YTr B N Y m) : ∃ E : List Em, (∀ e ∈ E, ∃ d, IsEm Y N m e d) ∧ ∀ (i : Nat) (d : Dd), (Y m).ds[i]? = some d → d.kd = 1 → d.ok = false → 0 ≤ d.till → ∃ e ∈ E, e.i = i := by
 have hex : ∀ i : Nat, ∃ a : Em, (∃ d, (Y m).ds[i]? = some d ∧ d.kd = 1 ∧ d.ok = false ∧ 0 ≤ d.till) → a.i = i ∧ ∃ d, IsEm Y N m a d := fun i => by
  by_cases hq : ∃ d, (Y m).ds[i]? = some d ∧ d.kd = 1 ∧ d.ok = false ∧ 0 ≤ d.till
  ·obtain ⟨d, h1, h2, h3, h4⟩ := hq
   obtain ⟨a, e, ha⟩ := em_of h h1 h2 h3 h4
   exact ⟨a, fun _ => ⟨e, d, ha⟩⟩
  ·exact ⟨⟨0, 0⟩, fun hh => absurd hh hq⟩
 obtain ⟨f, hf⟩ := Classical.axiomOfChoice hex
 have hS : ∀ i, i ∈ (List.range (Y m).ds.length).filter (fun i => ((Y m).ds[i]?).any (fun d => decide (d.kd = 1) && !d.ok && decide (0 ≤ d.till))) ↔ ∃ d, (Y m).ds[i]? = some d ∧ d.kd = 1 ∧ d.ok = false ∧ 0 ≤ d.till := fun i => by
  rw [List.mem_filter, List.mem_range]
  constructor
  ·rintro ⟨h1, h2⟩
   rw [List.getElem?_eq_getElem h1] at h2 ⊢
   simp at h2
   exact ⟨_, rfl, h2.1.1, h2.1.2, h2.2⟩
  ·rintro ⟨d, h1, h2, h3, h4⟩
   refine ⟨(List.getElem?_eq_some_iff.1 h1).1, ?_⟩
   rw [h1]
   simp [h2, h3, h4]
 refine ⟨_, fun a ha => ?_, fun i d h1 h2 h3 h4 => ⟨f i, List.mem_map.2 ⟨i, (hS i).2 ⟨d, h1, h2, h3, h4⟩, rfl⟩, (hf i ⟨d, h1, h2, h3, h4⟩).1⟩⟩
 obtain ⟨i, hi, rfl⟩ := List.mem_map.1 ha
 exact (hf i ((hS i).1 hi)).2
theorem ems_of (h : YTr B N Y m) {I : List It} {E : List Em} (hI : ∀ a ∈ I, ∃ d j, IsItem Y B N m a d j) (hE : ∀ e ∈ E, ∃ d, IsEm Y N m e d) : Ems (befL (Y m).ds) I E := by
 have tl : ∀ a d j, IsItem Y B N m a d j → ((Y a.p).moves : Int) = d.till ∧ d.fr < (Y a.p).moves := fun a d j pa => by
  have e := pa.put.till
  have := dfr h pa.deed (by omega)
  omega
 refine ⟨fun a ha e he hbf => ?_, fun a ha t ht e he hbf => ?_, fun e he a ha hbf => ?_, fun e he a ha t ht hbf => ?_, fun e he f hf hbf => ?_, fun e he a ha hlt => ?_, fun e he a ha hm => ?_⟩
 ·obtain ⟨d, j, pa⟩ := hI a ha
  obtain ⟨de, pe⟩ := hE e he
  obtain ⟨x, y, x1, x2, x3, x4⟩ := hbf
  rw [pa.deed] at x1
  rw [pe.deed] at x2
  cases x1
  cases x2
  have := tl a d j pa
  have := pe.fr
  exact mv_lt h (by have := pa.pm; omega) (by omega)
 ·obtain ⟨d, j, pa⟩ := hI a ha
  obtain ⟨de, pe⟩ := hE e he
  obtain ⟨dg, tk⟩ := pa.yes t ht
  obtain ⟨x, y, x1, x2, x3, x4⟩ := hbf
  rw [tk.deed] at x1
  rw [pe.deed] at x2
  cases x1
  cases x2
  have := pe.fr
  have := tk.sm
  rcases tk.out with q | ⟨_, q, _⟩
  ·omega
  ·exact mv_lt h (by omega) (by omega)
 ·obtain ⟨d, j, pa⟩ := hI a ha
  obtain ⟨de, pe⟩ := hE e he
  obtain ⟨x, y, x1, x2, x3, x4⟩ := hbf
  rw [pe.deed] at x1
  rw [pa.deed] at x2
  cases x1
  cases x2
  have := tl a d j pa
  have := pe.le
  exact Nat.le_of_lt (mv_lt h pe.cm (by omega))
 ·obtain ⟨d, j, pa⟩ := hI a ha
  obtain ⟨de, pe⟩ := hE e he
  obtain ⟨dg, tk⟩ := pa.yes t ht
  obtain ⟨x, y, x1, x2, x3, x4⟩ := hbf
  rw [pe.deed] at x1
  rw [tk.deed] at x2
  cases x1
  cases x2
  have := pe.le
  have := tk.fr
  exact mv_lt h pe.cm (by omega)
 ·obtain ⟨de, pe⟩ := hE e he
  obtain ⟨df, pf⟩ := hE f hf
  obtain ⟨x, y, x1, x2, x3, x4⟩ := hbf
  rw [pe.deed] at x1
  rw [pf.deed] at x2
  cases x1
  cases x2
  have := pe.le
  have := pf.fr
  exact mv_lt h pe.cm (by omega)
 ·obtain ⟨d, j, pa⟩ := hI a ha
  obtain ⟨de, pe⟩ := hE e he
  apply Classical.byContradiction
  intro hno
  have hw := pa.word h hlt (fun t ht => Nat.le_of_not_lt fun hh => hno ⟨t, ht, hh⟩) pe.cm
  exact pe.none j pa.put.lt (by rw [hw]; exact pa.put.live)
 ·obtain ⟨d, j, pa⟩ := hI a ha
  obtain ⟨de, pe⟩ := hE e he
  rcases It.ops_iff.1 hm with e1 | ⟨t, ht, e1⟩
  ·have q := pe.deed
   rw [e1, pa.deed] at q
   cases q
   have := pa.kd
   have := pe.kd
   omega
  ·obtain ⟨dg, tk⟩ := pa.yes t ht
   have q := tk.deed
   rw [← e1, pe.deed] at q
   cases q
   have := pe.till
   rcases tk.out with q | ⟨q, _⟩
   ·omega
   ·rw [pe.ok] at q
    cases q
theorem zGs (h : YTr B N Y m) {I : List It} (hI : ∀ a ∈ I, ∃ d j, IsItem Y B N m a d j) (hin : ∀ (i : Nat) (d : Dd), (Y m).ds[i]? = some d → d.kd = 0 → d.ok = true → ∃ a ∈ I, a.i = i) {g : Nat} {dg : Dd} (hd : (Y m).ds[g]? = some dg) (hk : dg.kd = 1) (ho : dg.ok = true) (ht : 0 ≤ dg.till) : ∃ a ∈ I, ∃ t, a.tk = some t ∧ t.1 = g := by
 obtain ⟨w, f, b', _, _, hb', _, hgot⟩ := ((h.gets m (Nat.le_refl _)).done g dg hd hk (by omega)).ok ho
 obtain ⟨c, s, j, i, p, d, hh⟩ := zIL h hb' hgot
 have k1 := hh.sb
 have k2 := hh.cs
 have k3 := hh.pc
 have hdm := h.over (show c ≤ m by omega) (Nat.le_refl _) hh.deed (.inl hh.ok)
 obtain ⟨a, ha, rfl⟩ := hin i d hdm hh.kd hh.ok
 obtain ⟨d', j', pa⟩ := hI a ha
 have q := pa.deed
 rw [hdm] at q
 cases q
 have hpp : a.p = p := by
  have e1 := pa.put.till
  have e2 := hh.put.till
  obtain ⟨w1, k1', r1, r2, r3⟩ := pa.put.run
  obtain ⟨w2, k2', r1', r2', r3'⟩ := hh.put.run
  have hpm := pa.pm
  rcases Nat.lt_trichotomy a.p p with hl | he | hl
  ·obtain ⟨_, _, _, _, d2, x5, _, x7, _⟩ := (h.all p (by omega)).ok.task w2 _ a.i r2'
   have hlat := (h.later (show a.p + 1 ≤ p by omega) (by omega))
   have hdone : (Y (a.p + 1)).ds[a.i]? = some d ∨ ∃ x, (Y (a.p + 1)).ds[a.i]? = some x ∧ x.till = -1 := by
    cases hx : (Y (a.p + 1)).ds[a.i]? with
    | none =>
     obtain ⟨_, _, _, _, d3, y5, _⟩ := (h.all a.p (by omega)).ok.task w1 _ a.i r2
     obtain ⟨d4, z1, _⟩ := (h.later (show a.p ≤ a.p + 1 by omega) (by omega)).deed a.i d3 y5
     rw [hx] at z1
     cases z1
    | some x =>
     by_cases hxt : x.till = -1
     ·exact .inr ⟨x, rfl, hxt⟩
     ·have := h.over (show a.p + 1 ≤ m by omega) (Nat.le_refl _) hx (.inr hxt)
      rw [hdm] at this
      cases this
      exact .inl rfl
   rcases hdone with hx | ⟨x, hx, hxt⟩
   ·have := h.over (show a.p + 1 ≤ p by omega) (by omega) hx (.inl hh.ok)
    rw [this] at x5
    cases x5
    omega
   ·obtain ⟨⟨w3, g1, g2, g3⟩, _⟩ := (h.all (a.p + 1) (by omega)).ok.deed a.i x hx
    obtain ⟨T, hT⟩ := g3 hxt
    obtain ⟨_, _, _, _, d3, y5, y6, _⟩ := (h.all a.p (by omega)).ok.task w1 _ a.i r2
    obtain ⟨d4, z1, z2, _⟩ := (h.later (show a.p ≤ a.p + 1 by omega) (by omega)).deed a.i d3 y5
    rw [hx] at z1
    cases z1
    have : w3 = w1 := by omega
    rw [this, r3] at hT
    cases hT
  ·exact he
  ·obtain ⟨_, _, _, _, d2, x5, _, x7, _⟩ := (h.all a.p (by omega)).ok.task w1 _ a.i r2
   have := h.over (show c ≤ m by omega) (Nat.le_refl _) hh.deed (.inl hh.ok)
   by_cases hca : c ≤ a.p
   ·have := h.over hca (by omega) hh.deed (.inl hh.ok)
    rw [this] at x5
    cases x5
    omega
   ·obtain ⟨_, _, _, _, d3, y5, y6, _⟩ := (h.all p (by omega)).ok.task w2 _ a.i r2'
    cases hx : (Y (p + 1)).ds[a.i]? with
    | none =>
     obtain ⟨d4, z1, _⟩ := (h.later (show p ≤ p + 1 by omega) (by omega)).deed a.i d3 y5
     rw [hx] at z1
     cases z1
    | some x =>
     by_cases hxt : x.till = -1
     ·obtain ⟨⟨w3, g1, g2, g3⟩, _⟩ := (h.all (p + 1) (by omega)).ok.deed a.i x hx
      obtain ⟨T, hT⟩ := g3 hxt
      obtain ⟨d4, z1, z2, _⟩ := (h.later (show p ≤ p + 1 by omega) (by omega)).deed a.i d3 y5
      rw [hx] at z1
      cases z1
      have : w3 = w2 := by omega
      rw [this, r3'] at hT
      cases hT
     ·have h4 := h.over (show p + 1 ≤ a.p by omega) (by omega) hx (.inr hxt)
      rw [h4] at x5
      cases x5
      exact absurd x7 hxt
 subst hpp
 have hjj : j' = j := by
  apply Classical.byContradiction
  intro hne
  have e1 := pa.put.rest j (fun e => hne e.symm)
  have l1 := hh.put.live
  have f1 := hh.put.free
  rw [e1] at l1
  exact f1 l1
 subst hjj
 have l1 := hh.put.live
 have ff := ((h.fit (a.p + 1) (by omega)) j').1
 have tw := (zAT ff).1
 have hnew : (Y (s + 1)).C.getD j' 0 = tkW ((Y (a.p + 1)).C.getD j' 0) := by rw [hh.new, hh.word]
 have hwas : (Y s).C.getD j' 0 = (Y (a.p + 1)).C.getD j' 0 := by rw [hh.was, hh.word]
 refine ⟨a, ha, ?_⟩
 cases htk : a.tk with
 | none =>
  have := h.stays hh.lt (a := a.p + 1) (b := s + 1) (c := m) (by omega) (by omega) (Nat.le_refl _) (pa.no htk).symm
  rw [hnew] at this
  omega
 | some t =>
  refine ⟨t, rfl, ?_⟩
  obtain ⟨dg', tk⟩ := pa.yes t htk
  have q1 := tk.sm
  have q2 := tk.pc
  have q3 := tk.cs
  have hss : t.2.2 = s := by
   rcases Nat.lt_trichotomy t.2.2 s with hl | he | hl
   ·have := h.stays hh.lt (a := t.2.2) (b := t.2.2 + 1) (c := s) (by omega) (by omega) (by omega) (by rw [tk.was, hwas])
    rw [tk.new, tk.was] at this
    omega
   ·exact he
   ·have := h.stays hh.lt (a := s) (b := s + 1) (c := t.2.2) (by omega) (by omega) (by omega) (by rw [tk.was, hwas])
    rw [hnew, hwas] at this
    omega
  obtain ⟨w1, ⟨k1', r1⟩, r2⟩ := tk.run
  obtain ⟨k2', r1'⟩ := hh.run
  rw [hss] at r1 r2
  have hw := zCd (h.how s (by omega)) r2 hh.turn
  subst hw
  rw [r1] at r1'
  exact (Prod.mk.inj (Option.some.inj (Option.some.inj r1'))).2
end
end
section
open Go.RowKit
section
variable {B : YB} {N m : Nat} {Y : Nat → Yd}
theorem zDR (h : YTr B N Y m) (hkd : ∀ (i : Nat) (d : Dd), (Y m).ds[i]? = some d → d.kd = 0 ∨ d.kd = 1)
  (hord : ∀ I : List It, (∀ a ∈ I, ∃ d j, IsItem Y B N m a d j) → (∀ a ∈ I, ∀ b ∈ I, a.i = b.i → a = b) → Its (befL (Y m).ds) I ∧ ∃ O F, Ordd (befL (Y m).ds) I O ∧ ((∀ a ∈ I, a.tk ≠ none) → F = []) ∧ oRun (Y m).ds [] O = some F) :
  ∃ O, Holds (Y m).ds (fun _ => False) [] O := by
 obtain ⟨I, hI, hin, hu⟩ := zGU h
 obtain ⟨E, hE, hein⟩ := zH0 h
 have hfr : ∀ (i : Nat) (d : Dd), (Y m).ds[i]? = some d → 0 ≤ d.till → d.fr ≤ d.till := fun i d hd ht => Int.le_of_lt (dfr h hd ht)
 obtain ⟨O, hO⟩ := zCG (l := (Y m).ds) E.length E I (Nat.le_refl _) (hord I hI hu).1 (ems_of h hI hE) (fun e he => by obtain ⟨d, pe⟩ := hE e he; exact ⟨d, pe.deed, pe.kd, pe.ok, pe.till⟩)
  (fun J hJ => (hord J (fun a ha => hI a (hJ a ha)) (fun a ha b hb => hu a (hJ a ha) b (hJ b hb))).2)
 have hS : ∀ i, i ∈ (List.range (Y m).ds.length).filter (fun i => ((Y m).ds[i]?).any (fun d => decide (d.kd = 0) && !d.ok && decide (0 ≤ d.till))) ↔ ∃ d, (Y m).ds[i]? = some d ∧ d.kd = 0 ∧ d.ok = false ∧ 0 ≤ d.till := fun i => by
  rw [List.mem_filter, List.mem_range]
  constructor
  ·rintro ⟨h1, h2⟩
   rw [List.getElem?_eq_getElem h1] at h2 ⊢
   simp at h2
   exact ⟨_, rfl, h2.1.1, h2.1.2, h2.2⟩
  ·rintro ⟨d, h1, h2, h3, h4⟩
   refine ⟨(List.getElem?_eq_some_iff.1 h1).1, ?_⟩
   rw [h1]
   simp [h2, h3, h4]
 obtain ⟨O', hO'⟩ := hO.more (fun a b c => zFI hfr a b c) (zDK hfr) _ (fun n hn R O => by
  obtain ⟨d, h1, h2, h3, h4⟩ := (hS n).1 hn
  refine zAm h1 ?_
  unfold dAns
  rw [if_pos h4]
  unfold dDo
  rw [if_pos h2, if_neg (by rw [h3]; decide)])
 refine ⟨O', hO'.holds hfr (fun i d hd ht => ?_)⟩
 rcases hkd i d hd with hk | hk
 ·cases ho : d.ok with
  | true =>
   obtain ⟨a, ha, e⟩ := hin i d hd hk ho
   exact .inl (.inl ⟨a, ha, It.ops_iff.2 (.inl e.symm)⟩)
  | false => exact .inr ((hS i).2 ⟨d, hd, hk, ho, ht⟩)
 ·cases ho : d.ok with
  | true =>
   obtain ⟨a, ha, t, htk, e⟩ := zGs h hI hin hd hk ho ht
   exact .inl (.inl ⟨a, ha, It.ops_iff.2 (.inr ⟨t, htk, e.symm⟩)⟩)
  | false =>
   obtain ⟨e, he, e1⟩ := hein i d hd hk ho ht
   exact .inl (.inr ⟨e, he, e1.symm⟩)
theorem zDp (h : YTr B N Y m) (hN : N < 1048576) (hkd : ∀ (i : Nat) (d : Dd), (Y m).ds[i]? = some d → d.kd = 0 ∨ d.kd = 1) (he : ∀ (i : Nat) (d : Dd), (Y m).ds[i]? = some d → d.e = 1) : ∃ O, Holds (Y m).ds (fun _ => False) [] O := by
 refine zDR h hkd (fun I hI hu => ?_)
 have hfr : ∀ (i : Nat) (d : Dd), (Y m).ds[i]? = some d → 0 ≤ d.till → d.fr ≤ d.till := fun i d hd ht => Int.le_of_lt (dfr h hd ht)
 have hits := zDl h (fun a ha => by obtain ⟨d, j, pa⟩ := hI a ha; exact ⟨d, j, pa, he _ d pa.deed⟩) hu hN
 refine ⟨hits, ?_⟩
 have hT : TopS I := fun a ha b hb t ht hlt hl => by
  obtain ⟨d, j, pa⟩ := hI a ha
  obtain ⟨d', j', pb⟩ := hI b hb
  obtain ⟨dg, tk⟩ := pa.yes t ht
  have := zEg h pa pb tk ht hlt hl
  rw [if_neg (by rw [he _ dg tk.deed]; decide)] at this
  exact this
 have hD : ∀ a ∈ I, IsIt (Y m).ds a := fun a ha => by
  obtain ⟨d, j, pa⟩ := hI a ha
  refine ⟨⟨d, pa.deed, pa.kd, pa.ok, he _ d pa.deed, pa.x.symm, by rw [← pa.put.till]; omega⟩, fun t ht => ?_⟩
  obtain ⟨dg, tk⟩ := pa.yes t ht
  refine ⟨dg, tk.deed, tk.kd, he _ dg tk.deed, fun h0 => ?_⟩
  rcases tk.out with q | ⟨q1, _, q2⟩
  ·omega
  ·exact ⟨q1, by rw [q2, pa.x]⟩
 obtain ⟨O, F, h1, h2, h3⟩ := zA4 (l := (Y m).ds) I.length I (Nat.le_refl _) hits hT hD (zDK hfr)
 exact ⟨O, F, h1, h2, by rw [h3]; rfl⟩
def relQ (l : List Dd) (I : List It) (o d : Nat) : Prop :=
 befL l o d ∨ (∃ a ∈ I, ∃ b ∈ I, ∃ t, b.tk = some t ∧ o = a.i ∧ d = t.1 ∧ a.p < t.2.1) ∨ ∃ a ∈ I, ∃ b ∈ I, ∃ t u, a.tk = some t ∧ b.tk = some u ∧ o = t.1 ∧ d = u.1 ∧ t.2.1 < u.2.1
theorem zGc (h : YTr B N Y m) {I : List It} (hI : ∀ a ∈ I, ∃ d j, IsItem Y B N m a d j) (hits : Its (befL (Y m).ds) I) : QRel (relQ (Y m).ds I) I := by
 have oi : ∀ a ∈ I, ∀ b ∈ I, a.i = b.i → a = b := fun a ha b hb e => hits.one a ha b hb a.i (It.ops_iff.2 (.inl rfl)) (It.ops_iff.2 (.inl e))
 have ot : ∀ a ∈ I, ∀ b ∈ I, ∀ t u, a.tk = some t → b.tk = some u → t.1 = u.1 → a = b := fun a ha b hb t u ht hu e => hits.one a ha b hb t.1 (It.ops_iff.2 (.inr ⟨t, ht, rfl⟩)) (It.ops_iff.2 (.inr ⟨u, hu, e⟩))
 have oit : ∀ a ∈ I, ∀ b ∈ I, ∀ t, b.tk = some t → a.i ≠ t.1 := fun a ha b hb t ht e => by
  have hab := hits.one a ha b hb a.i (It.ops_iff.2 (.inl rfl)) (It.ops_iff.2 (.inr ⟨t, ht, e⟩))
  subst hab
  exact hits.own a ha t ht e.symm
 refine ⟨fun a ha b hb hr => ?_, fun a ha b hb t ht => ⟨fun hr => ?_, fun hr => .inr (.inl ⟨a, ha, b, hb, t, ht, rfl, rfl, hr⟩)⟩, fun a ha b hb t ht hr => ?_, fun a ha b hb t u ht hu => ⟨fun hr => ?_, fun hr => .inr (.inr ⟨a, ha, b, hb, t, u, ht, hu, rfl, rfl, hr⟩)⟩, fun a ha b hb c hc t ht hp hr => ?_, hits.tm, hits.own, hits.one, hits.key⟩
 ·rcases hr with hr | ⟨a', ha', b', hb', t, ht, e1, e2, _⟩ | ⟨a', ha', b', hb', t, u, ht, hu, e1, e2, _⟩
  ·exact hits.pp a ha b hb hr
  ·exact absurd e2 (oit b hb b' hb' t ht)
  ·exact absurd e1 (oit a ha a' ha' t ht)
 ·rcases hr with hr | ⟨a', ha', b', hb', t', ht', e1, e2, e3⟩ | ⟨a', ha', b', hb', t', u, ht', hu, e1, e2, _⟩
  ·exact hits.pg a ha b hb t ht hr
  ·have q1 := oi a ha a' ha' e1
   have q2 := ot b hb b' hb' t t' ht ht' e2
   subst q1 q2
   rw [ht] at ht'
   cases ht'
   exact e3
  ·exact absurd e1 (oit a ha a' ha' t' ht')
 ·rcases hr with hr | ⟨a', ha', b', hb', t', ht', e1, e2, e3⟩ | ⟨a', ha', b', hb', t', u, ht', hu, e1, e2, _⟩
  ·exact hits.gp a ha b hb t ht hr
  ·exact absurd e2 (oit b hb b' hb' t' ht')
  ·exact absurd e2 (oit b hb b' hb' u hu)
 ·rcases hr with hr | ⟨a', ha', b', hb', t', ht', e1, e2, e3⟩ | ⟨a', ha', b', hb', t', u', ht', hu', e1, e2, e3⟩
  ·have h1 := hits.gg a ha b hb t u ht hu hr
   have := hits.tm a ha t ht
   omega
  ·exact absurd e1.symm (oit a' ha' a ha t ht)
  ·have q1 := ot a ha a' ha' t t' ht ht' e1
   have q2 := ot b hb b' hb' u u' hu hu' e2
   subst q1 q2
   rw [ht] at ht'
   rw [hu] at hu'
   cases ht'
   cases hu'
   exact e3
 ·rcases hr with hr | ⟨a', ha', b', hb', t', ht', e1, e2, e3⟩ | ⟨a', ha', b', hb', t', u, ht', hu, e1, e2, _⟩
  ·left
   obtain ⟨d, j, pa⟩ := hI a ha
   obtain ⟨d', j', pb⟩ := hI b hb
   obtain ⟨d2, j2, pc⟩ := hI c hc
   obtain ⟨dg, tk⟩ := pb.yes t ht
   obtain ⟨x, y, x1, x2, x3, x4⟩ := hr
   rw [tk.deed] at x1
   rw [pc.deed] at x2
   cases x1
   cases x2
   have k1 := tk.cs
   have k2 := tk.sm
   have e := pa.put.till
   have hmv := h.moves (show a.p ≤ t.2.2 by omega) (by omega)
   refine ⟨d, d2, pa.deed, pc.deed, by omega, ?_⟩
   rcases tk.out with q | ⟨_, q, _⟩
   ·omega
   ·omega
  ·exact absurd e2 (oit c hc b' hb' t' ht')
  ·exact absurd e2 (oit c hc b' hb' u hu)
theorem zDx (h : YTr B N Y m) (hN : N < 1048576) (hkd : ∀ (i : Nat) (d : Dd), (Y m).ds[i]? = some d → d.kd = 0 ∨ d.kd = 1) (he : ∀ (i : Nat) (d : Dd), (Y m).ds[i]? = some d → d.e = 1 - d.kd) : ∃ O, Holds (Y m).ds (fun _ => False) [] O := by
 refine zDR h hkd (fun I hI hu => ?_)
 have hfr : ∀ (i : Nat) (d : Dd), (Y m).ds[i]? = some d → 0 ≤ d.till → d.fr ≤ d.till := fun i d hd ht => Int.le_of_lt (dfr h hd ht)
 have e1 : ∀ a d j, IsItem Y B N m a d j → d.e = 1 := fun a d j pa => by rw [he _ d pa.deed, pa.kd]; rfl
 have e0 : ∀ (g : Nat) (dg : Dd), (Y m).ds[g]? = some dg → dg.kd = 1 → dg.e = 0 := fun g dg hd hk => by rw [he _ dg hd, hk]; rfl
 have hits := zDl h (fun a ha => by obtain ⟨d, j, pa⟩ := hI a ha; exact ⟨d, j, pa, e1 a d j pa⟩) hu hN
 refine ⟨hits, ?_⟩
 have hQ := zGc h hI hits
 have hT : TopQ I := fun a ha b hb t ht hlt hl => by
  obtain ⟨d, j, pa⟩ := hI a ha
  obtain ⟨d', j', pb⟩ := hI b hb
  obtain ⟨dg, tk⟩ := pa.yes t ht
  have := zEg h pa pb tk ht hlt hl
  rw [if_pos (e0 _ dg tk.deed tk.kd)] at this
  exact this
 have hD : ∀ a ∈ I, IsQt (Y m).ds a := fun a ha => by
  obtain ⟨d, j, pa⟩ := hI a ha
  refine ⟨⟨d, pa.deed, pa.kd, pa.ok, e1 a d j pa, pa.x.symm, by rw [← pa.put.till]; omega⟩, fun t ht => ?_⟩
  obtain ⟨dg, tk⟩ := pa.yes t ht
  refine ⟨dg, tk.deed, tk.kd, e0 _ dg tk.deed tk.kd, fun h0 => ?_⟩
  rcases tk.out with q | ⟨q1, _, q2⟩
  ·omega
  ·exact ⟨q1, by rw [q2, pa.x]⟩
 obtain ⟨O, F, h1, h2, h3⟩ := zBQ (l := (Y m).ds) I.length I (Nat.le_refl _) hQ hT hD (fun a ha hr => by
  have := (hQ.pp a ha a ha hr).2
  omega)
 exact ⟨O, F, ⟨h1.nodup, h1.mem, h1.ahead.imp (fun hn hb => hn (.inl hb))⟩, h2, h3⟩
end
end
section
open Go.RowKit
section
variable {B : YB} {N m : Nat} {Y : Nat → Yd}
def dNear (e : Int) (d' d : Dd) : Prop := if d'.e = e then d.e ≠ e ∨ dBef d d' else d.e ≠ e ∧ dBef d' d
end
end
section
open Go.RowKit
def hadBy (v : Int) (d : Dd) : Prop := d.kd = 1 ∧ d.ok = true ∧ d.v = v
instance (v : Int) (d : Dd) : Decidable (hadBy v d) := inferInstanceAs (Decidable (_ ∧ _))
structure TkIs (l : List Dd) (v : Int) (r : Int) : Prop where
 is : (r = -1 ∧ ∀ d ∈ l, ¬ hadBy v d) ∨ ∃ (i : Nat) (d : Dd), r = i ∧ l[i]? = some d ∧ hadBy v d
def DOwn (l : List Dd) : Prop := ∀ (i i' : Nat) (d d' : Dd), l[i]? = some d → l[i']? = some d' → d.kd = 0 → d'.kd = 0 → d.x = d'.x → i = i'
section
variable {B : YB} {N m : Nat} {Y : Nat → Yd}
end
end
section
open Go.RowKit
structure TopRn (w : World) (r : Ending) (w' : World) (W : World) (l : List Thing) (yb ytb p c T : Nat) (s so : Int) (N : Nat) (S : List CM) (Yf : Nat → Yd) (An : List Int) (J : Nat → Nat) (g : Nat) (st : Int × Int × List CM) (n : Nat) : Prop where
 ret : r = .returned (pt yb)
 below : Below w.heap.size w W
 run : PRn W w' l ⟨yb, ytb, p, c, T, s, so, 1, T⟩ N S Yf An J g
 T1 : 1 ≤ T
 T4 : T ≤ 4
 s1 : 1 ≤ s
 s4 : s ≤ 4
 n16 : N ≤ 16
 eq : (T : Int) * s = N
 ok : TopOk T st n
 is : st.2.2 = S
 few : n ≤ 300
end
section
open Go.RowKit
theorem YOk.fitT {pl : Nat → Pl} {t n : Nat} {Y : Yd} (h : YOk pl t n Y) (ht : t ≤ 1000) (hn : n ≤ 1000000) {d : Dd} (hd : d ∈ Y.ds) : d.Fit := by
 obtain ⟨i, hi⟩ := List.mem_iff_getElem?.1 hd
 obtain ⟨⟨w, hw, hwt, _⟩, f0, f1, f2⟩ := h.deed i d hi
 have hm := h.most
 refine ⟨WalkArith.wf_i64 (by omega), by omega, by omega, ?_, ?_⟩
 ·by_cases e : d.till = -1
  ·omega
  ·have := (f2 e).1
   omega
 ·by_cases e : d.till = -1
  ·omega
  ·have := (f2 e).2
   omega
theorem zHm {w : World} {base cap : Nat} {A : Option Addr} {L : List Dd} (h : w.ownsRow base 77 11 (.slice A L.length cap) L.length (flatD L)) (hF : ∀ d ∈ L, d.Fit) : ∃ tb, IsDds w A L.length cap tb 0 L := by
 have hc := zIH h
 rcases h.2 with ⟨hv, h0⟩ | ⟨g, cap', cur, hv, _, hh, _⟩
 ·have hl : L = [] := List.eq_nil_of_length_eq_zero h0
  subst hl
  exact ⟨0, rfl, hc, fun hp => absurd hp (Nat.lt_irrefl _), fun i d hd => by cases hd⟩
 ·cases hv
  refine ⟨g, rfl, hc, fun _ => ⟨rfl, (Array.getElem?_eq_some_iff.1 hh).1⟩, fun i d hd => ⟨?_, hF d (List.mem_of_getElem? hd)⟩⟩
  rw [Nat.zero_add]
  exact AtDd.row h hd
theorem YdL.deedsT {W w : World} {l : List Thing} {B : YB} {N n : Nat} {Y : Yd} {J : Nat → Nat} (h : YdL W w l B N Y J n) (hn : n ≤ 1000000) (hT : B.T ≤ 1000) : Calls Tryz.prog 21 #[pt B.yb] w fun r w' => ∃ A cp tb, r = .returned (.slice A Y.ds.length cp) ∧ Below w.heap.size w w' ∧ IsDds w' A Y.ds.length cp tb 0 Y.ds := by
 refine (h.deeds hn).mono ?_
 rintro r w' ⟨v, rfl, hrow, hb⟩
 obtain ⟨A, cp, rfl⟩ := zAN hrow
 obtain ⟨tb, hd⟩ := zHm hrow (fun d hd => h.ok.fitT hT hn hd)
 exact ⟨A, cp, tb, rfl, hb, hd⟩
theorem IsDds.less {w w' : World} {a : Option Addr} {len cap tb off : Nat} {l : List Dd} (h : IsDds w a len cap tb off l) (e : Below w.heap.size w w') : IsDds w' a len cap tb off l := h.later e (fun hp => (h.2.2.1 hp).2)
end
section
open Go.RowKit
def lPut (v : Int) : Dd := ⟨0, 0, 1, v, 0, 0, 0, true, 0, 0, 0⟩
def lGet (e v : Int) : Dd := ⟨0, 1, e, 0, 0, 0, 0, true, v, 0, 0⟩
def lNone : Dd := ⟨0, 1, 0, 0, 0, 0, 0, false, 0, 0, 0⟩
def OneBy (l : List Dd) : Prop := ∀ (i : Nat) (d : Dd), l[i]? = some d → d.fr = 2 * (i : Int) ∧ d.till = 2 * (i : Int) + 1
end
section
open Go.RowKit
def cOk (d : Dd) : Prop := (d.kd = 0 ∨ d.kd = 1) ∧ (d.e = 0 ∨ d.e = 1)
instance (d : Dd) : Decidable (cOk d) := inferInstanceAs (Decidable (_ ∧ _))
def dOwn (l : List Dd) (w : Int) : Nat → Int
 | 0 => -1
 | i + 1 => match l[i]? with
  | some o => if o.who = w then i else dOwn l w i
  | none => dOwn l w i
def rFrom (l : List Dd) (i : Nat) (d : Dd) : Prop := 0 ≤ d.fr ∧ ∀ j p, i = j + 1 → l[j]? = some p → p.fr < d.fr
def rTill (d : Dd) : Prop := 0 ≤ d.till → d.fr < d.till
def rApart (d o : Dd) : Prop := d.fr ≠ o.till ∧ (0 ≤ d.till → d.till ≠ o.till ∧ d.till ≠ o.fr)
def rMoves (l : List Dd) (i : Nat) (d : Dd) : Prop := ∀ k o, k < i → l[k]? = some o → rApart d o
def rOwn (l : List Dd) (i : Nat) (d : Dd) : Prop := ∀ k o, dOwn l d.who i = (k : Nat) → l[k]? = some o → dBef o d
structure ROk (l : List Dd) (i : Nat) (d : Dd) : Prop where
 call : cOk d
 frm : rFrom l i d
 till : rTill d
 moves : rMoves l i d
 own : rOwn l i d
def DRight (l : List Dd) (n : Nat) : Prop := ∀ i d, i < n → l[i]? = some d → ROk l i d
section
variable {l : List Dd} {i : Nat} {d : Dd}
theorem DRight.zero : DRight l 0 := fun i d h => absurd h (Nat.not_lt_zero _)
theorem DRight.next (h : DRight l i) (hd : l[i]? = some d) (ho : ROk l i d) : DRight l (i + 1) := fun j o hj hl => by
 by_cases e : j = i
 ·subst e
  rw [hd] at hl
  cases hl
  exact ho
 ·exact h j o (by omega) hl
theorem zFo (w : Int) : ∀ i, -1 ≤ dOwn l w i ∧ dOwn l w i < i
 | 0 => by
  rw [dOwn]
  omega
 | i + 1 => by
  have ih := zFo w i
  rw [dOwn]
  split
  ·split <;> omega
  ·omega
def prevFr (l : List Dd) : Nat → Int
 | 0 => -1
 | i + 1 => match l[i]? with
  | some o => o.fr
  | none => -1
theorem zCD (h : l[i]? = some d) : prevFr l (i + 1) = d.fr := by rw [prevFr, h]
theorem DRight.below (h : DRight l i) (hi : i ≤ l.length) : -1 ≤ prevFr l i ∧ ∀ k o, k < i → l[k]? = some o → 0 ≤ o.fr ∧ o.fr ≤ prevFr l i := by
 induction i with
 | zero => exact ⟨Int.le_refl _, fun k o hk => absurd hk (Nat.not_lt_zero _)⟩
 | succ i ih =>
  have ih := ih (fun j d hj => h j d (by omega)) (by omega)
  have e : l[i]? = some (l[i]'(by omega)) := List.getElem?_eq_getElem (by omega)
  have ho := h i _ (Nat.lt_succ_self i) e
  have h0 := ho.frm.1
  rw [zCD e]
  have hlt : prevFr l i < (l[i]'(by omega)).fr := by
   cases i with
   | zero =>
    show (-1 : Int) < _
    omega
   | succ j =>
    have e2 : l[j]? = some (l[j]'(by omega)) := List.getElem?_eq_getElem (by omega)
    rw [zCD e2]
    exact ho.frm.2 j _ rfl e2
  refine ⟨by omega, fun k o hk hl => ?_⟩
  by_cases ek : k = i
  ·subst ek
   rw [e] at hl
   cases hl
   exact ⟨h0, Int.le_refl _⟩
  ·have := ih.2 k o (by omega) hl
   exact ⟨this.1, by omega⟩
def movM (l : List Dd) (i : Nat) (m : Int) : Bool := (l.take i).any (fun o => decide (m = o.fr) || (decide (0 ≤ o.till) && decide (m = o.till)))
def lastF (l : List Dd) (i : Nat) (w : Int) : Int := max (dOwn l w i) 0
def lastM (l : List Dd) (i : Nat) (w : Int) : Bool := decide (0 ≤ dOwn l w i)
end
theorem zDY {l : List Dd} {n : Nat} (w : Int) : ∀ {i : Nat}, i ≤ n → dOwn (l.take n) w i = dOwn l w i
 | 0, _ => rfl
 | i + 1, h => by
  rw [dOwn, dOwn, List.getElem?_take_of_lt (by omega), zDY w (by omega)]
theorem DRight.take {l : List Dd} {n : Nat} (h : DRight l n) : DRight (l.take n) n := fun i d hi hd => by
 rw [List.getElem?_take_of_lt hi] at hd
 obtain ⟨h1, h2, h3, h4, h5⟩ := h i d hi hd
 refine ⟨h1, ⟨h2.1, fun j p hj hp => ?_⟩, h3, fun k o hk ho => ?_, fun k o hk ho => ?_⟩
 ·rw [List.getElem?_take_of_lt (by omega)] at hp
  exact h2.2 j p hj hp
 ·rw [List.getElem?_take_of_lt (by omega)] at ho
  exact h4 k o hk ho
 ·rw [zDY _ (by omega)] at hk
  have := (zFo (l := l) d.who i).2
  rw [List.getElem?_take_of_lt (by omega)] at ho
  exact h5 k o hk ho
end
section
open Go.RowKit
open Go.RowKit Go.Maps
structure MapTy (P : Program) (t kt et : TypeId) (kq : IntKind) : Prop where
 ht : P.underlying t = some (.map kt et)
 hk : P.underlying kt = some (.int kq)
 he : P.underlying et = some (.int .i64)
 hz : ∀ w, (zeroValue et).run P w = .ok (.int .i64 0) w
structure SetTy (P : Program) (t kt et : TypeId) (kq : IntKind) : Prop where
 ht : P.underlying t = some (.map kt et)
 hk : P.underlying kt = some (.int kq)
 hz : ∀ w, (zeroValue et).run P w = .ok (.agg #[]) w
def IMap (P : Program) (kt et : TypeId) (kq : IntKind) (w : World) (b n : Nat) (F : Int → Int) (M : Int → Bool) : Prop :=
 ∃ D : DataW Unit, w.ownsMap P kt (plainElem P et) b n D ∧ ∀ k, (Lit.int kq k).wf = true → D.atKey (.int kq k) (.lit (.int .i64 0)) = .lit (.int .i64 (F k)) ∧ Maps.has D (.int kq k) = M k
def ISet (P : Program) (kt : TypeId) (kq : IntKind) (w : World) (b n : Nat) (M : Int → Bool) : Prop :=
 ∃ D : DataW Unit, w.ownsMap P kt unitElem b n D ∧ ∀ k, (Lit.int kq k).wf = true → Maps.has D (.int kq k) = M k
section
variable {P : Program} {t kt et : TypeId} {kq : IntKind} {w w' : World} {b n : Nat} {F : Int → Int} {M : Int → Bool}
theorem zCX {H : Type} {R : Value → Option (DataW H × List MemPlace)} {D : DataW H} {B : Nat} (h : w.ownsMap P kt R b n D) (e : Below B w w') (hb : b < B) : w'.ownsMap P kt R b n D := by
 obtain ⟨es, clock, h1, h2⟩ := h
 exact ⟨es, clock, (e.block b hb).trans h1, h2⟩
theorem IMap.lt (h : IMap P kt et kq w b n F M) : b < w.heap.size := by
 obtain ⟨D, h, _⟩ := h
 exact h.lt
theorem ISet.lt (h : ISet P kt kq w b n M) : b < w.heap.size := by
 obtain ⟨D, h, _⟩ := h
 exact h.lt
theorem IMap.later (h : IMap P kt et kq w b n F M) (e : Below w.heap.size w w') : IMap P kt et kq w' b n F M := by
 obtain ⟨D, h, k⟩ := h
 exact ⟨D, zCX h e h.lt, k⟩
theorem ISet.later (h : ISet P kt kq w b n M) (e : Below w.heap.size w w') : ISet P kt kq w' b n M := by
 obtain ⟨D, h, k⟩ := h
 exact ⟨D, zCX h e h.lt, k⟩
theorem IMap.kept {row : Option Nat} (h : IMap P kt et kq w b n F M) (hg : w.grownBy w' row) (hne : some b ≠ row) : IMap P kt et kq w' b n F M := by
 obtain ⟨D, h, k⟩ := h
 exact ⟨D, h.kept hg hne, k⟩
theorem ISet.kept {row : Option Nat} (h : ISet P kt kq w b n M) (hg : w.grownBy w' row) (hne : some b ≠ row) : ISet P kt kq w' b n M := by
 obtain ⟨D, h, k⟩ := h
 exact ⟨D, h.kept hg hne, k⟩
theorem IMap.drew (h : IMap P kt et kq w b n F M) : IMap P kt et kq w.drew b n F M := h
theorem ISet.drew (h : ISet P kt kq w b n M) : ISet P kt kq w.drew b n M := h
theorem IMap.setCell (h : IMap P kt et kq w b n F M) {a : Addr} (ha : b ≠ a.block) (u : Value) : IMap P kt et kq (w.setCell a u) b n F M := by
 obtain ⟨D, h, k⟩ := h
 exact ⟨D, h.setCell ha u, k⟩
theorem ISet.setCell (h : ISet P kt kq w b n M) {a : Addr} (ha : b ≠ a.block) (u : Value) : ISet P kt kq (w.setCell a u) b n M := by
 obtain ⟨D, h, k⟩ := h
 exact ⟨D, h.setCell ha u, k⟩
theorem IMap.mono (h : IMap P kt et kq w b n F M) {n' : Nat} (hn : n ≤ n') : IMap P kt et kq w b n' F M := by
 obtain ⟨D, h, k⟩ := h
 exact ⟨D, h.mono hn, k⟩
theorem ISet.mono (h : ISet P kt kq w b n M) {n' : Nat} (hn : n ≤ n') : ISet P kt kq w b n' M := by
 obtain ⟨D, h, k⟩ := h
 exact ⟨D, h.mono hn, k⟩
theorem IMap.made (w : World) (P : Program) (kt et : TypeId) (kq : IntKind) : IMap P kt et kq (w.alloc (.map #[] 0)) w.heap.size 0 (fun _ => 0) (fun _ => false) :=
 ⟨.map [], World.ownsMap_made _ _ _ _, fun _ _ => ⟨rfl, rfl⟩⟩
theorem ISet.made (w : World) (P : Program) (kt : TypeId) (kq : IntKind) : ISet P kt kq (w.alloc (.map #[] 0)) w.heap.size 0 (fun _ => false) :=
 ⟨.map [], World.ownsMap_made _ _ _ _, fun _ _ => rfl⟩
def putF (F : Int → Int) (k c : Int) : Int → Int := fun z => if z = k then c else F z
def putM (M : Int → Bool) (k : Int) : Int → Bool := fun z => decide (z = k) || M z
theorem IMap.store (ty : MapTy P t kt et kq) (h : IMap P kt et kq w b n F M) (hn : n < maxLen) {k c : Int} (hk : (Lit.int kq k).wf = true) (hc : (Lit.int .i64 c).wf = true) :
  ∃ w', (Instr.mapUpdate t (.map (some b)) (.int kq k) (.int .i64 c)).run P w = .ok () w' ∧ IMap P kt et kq w' b (n + 1) (putF F k c) (putM M k) ∧ w.grownBy w' (some b) := by
 obtain ⟨D, h, hD⟩ := h
 have K := int_keyed ty.hk
 have key := keyOf_int_mk ty.hk hk
 obtain ⟨w', hr, h1, h2⟩ := h.update K ty.ht hn key (plainElem_int ty.he hc)
 refine ⟨w', hr, ⟨_, h1, fun z hz => ?_⟩, h2⟩
 by_cases e : z = k
 ·subst e
  rw [atKey_put_same h.isMap (K.key key), has_put_same h.isMap (K.key key)]
  exact ⟨by rw [putF, if_pos rfl], by rw [putM]; simp⟩
 ·have hne : Lit.int kq z ≠ Lit.int kq k := fun hh => e (by cases hh; rfl)
  rw [atKey_put_other hne, has_put_other hne]
  exact ⟨by rw [putF, if_neg e]; exact (hD z hz).1, by rw [putM, decide_eq_false e, Bool.false_or]; exact (hD z hz).2⟩
theorem ISet.store (ty : SetTy P t kt et kq) (h : ISet P kt kq w b n M) (hn : n < maxLen) {k : Int} (hk : (Lit.int kq k).wf = true) :
  ∃ w', (Instr.mapUpdate t (.map (some b)) (.int kq k) (.agg #[])).run P w = .ok () w' ∧ ISet P kt kq w' b (n + 1) (putM M k) ∧ w.grownBy w' (some b) := by
 obtain ⟨D, h, hD⟩ := h
 have K := int_keyed ty.hk
 have key := keyOf_int_mk ty.hk hk
 obtain ⟨w', hr, h1, h2⟩ := h.update K ty.ht hn key unitElem_mk
 refine ⟨w', hr, ⟨_, h1, fun z hz => ?_⟩, h2⟩
 by_cases e : z = k
 ·subst e
  rw [has_put_same h.isMap (K.key key), putM]
  simp
 ·have hne : Lit.int kq z ≠ Lit.int kq k := fun hh => e (by cases hh; rfl)
  rw [has_put_other hne, putM, decide_eq_false e, Bool.false_or]
  exact hD z hz
variable {ops : Array Oper} {rest : List Oper} {o : Oper} {a : Act} {Q : Exit → Act → World → Prop}
end
end
section
open Go.RowKit
open Go.RowKit Go.Maps
theorem IMap.keep {P : Program} {kt et : TypeId} {kq : IntKind} {w w' : World} {b n : Nat} {F : Int → Int} {M : Int → Bool} {T : Nat → Prop} (h : IMap P kt et kq w b n F M) (k : Keep T w w') (hn : ¬ T b) : IMap P kt et kq w' b n F M := by
 have hl := h.lt
 obtain ⟨D, ⟨es, clock, h1, h2⟩, hD⟩ := h
 exact ⟨D, ⟨es, clock, (k.block b hl hn).trans h1, h2⟩, hD⟩
theorem AtBd.keep {w w' : World} {b : Nat} {d : Dd} {T : Nat → Prop} (h : AtBd w b d) (e : Keep T w w') (hr : ¬ T b) : AtBd w' b d :=
 ⟨e.cell h.c0 hr, e.cell h.c1 hr, e.cell h.c2 hr, e.cell h.c3 hr, e.cell h.c4 hr, e.cell h.c5 hr, e.cell h.c6 hr, e.cell h.c7 hr, e.cell h.c8 hr, e.cell h.c9 hr, e.cell h.c10 hr⟩
structure RS (w0 w : World) (n1 n2 : Nat) (F : Int → Int) (M S : Int → Bool) : Prop where
 below : Below w0.heap.size w0 w
 last : IMap Tryz.prog 3 3 .i64 w w0.heap.size n1 F M
 mov : ISet Tryz.prog 3 .i64 w (w0.heap.size + 1) n2 S
 box : w.cell? ⟨w0.heap.size + 2, 0, none⟩ = some (.map (some (w0.heap.size + 1)))
theorem RS.lt {w0 w : World} {n1 n2 : Nat} {F : Int → Int} {M S : Int → Bool} (h : RS w0 w n1 n2 F M S) : w0.heap.size + 2 < w.heap.size := World.block_lt_of_cell? w _ h.box
theorem RS.later {w0 w w' : World} {n1 n2 : Nat} {F : Int → Int} {M S : Int → Bool} (h : RS w0 w n1 n2 F M S) (e : Below w.heap.size w w') : RS w0 w' n1 n2 F M S :=
 ⟨zAD h.below e, h.last.later e, h.mov.later e, (e.cell (p := ⟨w0.heap.size + 2, 0, none⟩) h.lt).trans h.box⟩
theorem RS.keep {w0 w w' : World} {n1 n2 n2' : Nat} {F : Int → Int} {M S S' : Int → Bool} (h : RS w0 w n1 n2 F M S) (e : Keep (fun k => k = w0.heap.size + 1) w w') (hS : ISet Tryz.prog 3 .i64 w' (w0.heap.size + 1) n2' S') : RS w0 w' n1 n2' F M S' :=
 ⟨zAS h.below e h.below.size (fun i hi => by have hi : i = _ := hi; omega), h.last.keep e (fun hh => by have : w0.heap.size = w0.heap.size + 1 := hh; omega), hS, e.cell h.box (fun hh => by have : w0.heap.size + 2 = w0.heap.size + 1 := hh; omega)⟩
theorem RS.put {w0 w w' : World} {n1 n1' n2 : Nat} {F F' : Int → Int} {M M' S : Int → Bool} (h : RS w0 w n1 n2 F M S) (e : w.grownBy w' (some w0.heap.size)) (hM : IMap Tryz.prog 3 3 .i64 w' w0.heap.size n1' F' M') : RS w0 w' n1' n2 F' M' S :=
 ⟨h.below.grown e h.below.size (fun k hk => by cases hk; exact Nat.le_refl _), hM, h.mov.kept e (fun hh => by have := Option.some.inj hh; omega), (World.cell?_of_block (e.block (w0.heap.size + 2) h.lt (fun hh => by have := Option.some.inj hh; omega))).trans h.box⟩
end
section
open Go.RowKit
def rowOf (C : List Int) (f t : Nat) : List Int := (C.drop f).take (t - f)
theorem zGQ {C : List Int} {f t : Nat} (h2 : t ≤ C.length) : (rowOf C f t).length = t - f := by
 unfold rowOf
 rw [List.length_take, List.length_drop]
 omega
theorem zFx (C : List Int) (f t i : Nat) : (rowOf C f t)[i]? = if i < t - f then C[f + i]? else none := by
 unfold rowOf
 rw [List.getElem?_take]
 split
 ·rw [List.getElem?_drop]
 ·rfl
theorem zHO {C : List Int} {f t i : Nat} (h : i < t - f) : (rowOf C f t).getD i 0 = C.getD (f + i) 0 := by
 rw [List.getD_eq_getElem?_getD, List.getD_eq_getElem?_getD, zFx, if_pos h]
def IsU (w : World) (a : Option Addr) (R : List Int) : Prop :=
 0 < R.length → ∃ g off, a = some ⟨g, off, none⟩ ∧ g < w.heap.size ∧ ∀ i, i < R.length → w.cell? ⟨g, off + i, none⟩ = some (u64 (R.getD i 0))
theorem IsU.nil (w : World) (a : Option Addr) : IsU w a [] := fun h => absurd h (by simp)
theorem IsU.later {w w' : World} {a : Option Addr} {R : List Int} (h : IsU w a R) (e : Below w.heap.size w w') : IsU w' a R := fun hp => by
 obtain ⟨g, off, h1, h2, h3⟩ := h hp
 exact ⟨g, off, h1, Nat.lt_of_lt_of_le h2 e.size, fun i hi => (e.cell (p := ⟨g, off + i, none⟩) h2).trans (h3 i hi)⟩
theorem IsU.row {w : World} {base g cap f t : Nat} {C : List Int} (h : w.ownsRow base 30 1 (.slice (some ⟨g, 0, none⟩) C.length cap) C.length (C.map u64)) (h2 : t ≤ C.length) : IsU w (some ⟨g, f, none⟩) (rowOf C f t) := fun hp => by
 rw [zGQ h2] at hp ⊢
 refine ⟨g, f, rfl, (h.lt g rfl).2, fun i hi => ?_⟩
 rw [zHO hi]
 exact zET (k := .u64) h (by omega)
theorem IsU.tail {w : World} {g off : Nat} {R : List Int} (h : IsU w (some ⟨g, off, none⟩) R) : IsU w (some ⟨g, off + 1, none⟩) (R.drop 1) := fun hp => by
 rw [List.length_drop] at hp
 obtain ⟨g', off', h1, h2, h3⟩ := h (by omega)
 cases h1
 refine ⟨g, off + 1, rfl, h2, fun i hi => ?_⟩
 rw [List.length_drop] at hi
 rw [List.getD_eq_getElem?_getD, List.getElem?_drop, ← List.getD_eq_getElem?_getD, show off + 1 + i = off + (1 + i) by omega]
 exact h3 _ (by omega)
theorem IsU.init {w : World} {a : Option Addr} {R : List Int} (h : IsU w a R) (n : Nat) : IsU w a (R.take n) := fun hp => by
 rw [List.length_take] at hp
 obtain ⟨g, off, h1, h2, h3⟩ := h (by omega)
 refine ⟨g, off, h1, h2, fun i hi => ?_⟩
 rw [List.length_take] at hi
 rw [List.getD_eq_getElem?_getD, List.getElem?_take, if_pos (by omega), ← List.getD_eq_getElem?_getD]
 exact h3 _ (by omega)
def stV (R : List Int) (e : Int) : Int := if R = [] then 0 else if e = 0 then R.getD 0 0 else R.getD (R.length - 1) 0
def RwH (W w : World) (b : Nat) (C : List Int) (f t : Nat) : Prop :=
 f ≤ t ∧ t ≤ C.length ∧ ∃ g, Hold W w [tObj W.heap.size b [.slice (some ⟨g, 0, none⟩) C.length C.length, i64 f, i64 t], tRow W.heap.size 30 1 (.slice (some ⟨g, 0, none⟩) C.length C.length) C.length (C.map u64)]
theorem RwH.later {W w w' : World} {b : Nat} {C : List Int} {f t : Nat} (h : RwH W w b C f t) (e : Below w.heap.size w w') : RwH W w' b C f t :=
 ⟨h.1, h.2.1, h.2.2.imp fun _ hh => hh.later e⟩
theorem RwH.below {W w : World} {b : Nat} {C : List Int} {f t : Nat} (h : RwH W w b C f t) : Below W.heap.size W w := by
 obtain ⟨_, _, g, hh⟩ := h
 exact hh.below
def RwTo (W w' : World) (b : Nat) (C : List Int) (f t : Nat) (R : List Int) : Prop :=
 ∃ C' f' t', RwH W w' b C' f' t' ∧ C'.length = C.length ∧ f ≤ f' + 1 ∧ t' ≤ t + 1 ∧ rowOf C' f' t' = R
theorem RwH.to {W w : World} {b : Nat} {C : List Int} {f t : Nat} (h : RwH W w b C f t) : RwTo W w b C f t (rowOf C f t) := ⟨C, f, t, h, rfl, by omega, by omega, rfl⟩
theorem RwTo.later {W w w' : World} {b : Nat} {C : List Int} {f t : Nat} {R : List Int} (h : RwTo W w b C f t R) (e : Below w.heap.size w w') : RwTo W w' b C f t R := by
 obtain ⟨C', f', t', h1, h2⟩ := h
 exact ⟨C', f', t', h1.later e, h2⟩
theorem RwTo.drew {W w : World} {b : Nat} {C : List Int} {f t : Nat} {R : List Int} (h : RwTo W w b C f t R) : RwTo W w.drew b C f t R := h.later (Below.refl _ _).drew
def StU (w : World) (A : Option Addr) (n cap : Nat) (R : List Int) : Prop := IsU w A R ∧ R.length = n ∧ n ≤ cap ∧ n ≤ 1000000
end
section
open Go.RowKit
theorem dDo_p {row : List Int} {d : Dd} (hk : d.kd = 0) (ho : d.ok = true) : dDo row d = some (if d.e = 0 then d.x :: row else row ++ [d.x]) := by
 unfold dDo
 rw [if_pos hk, if_pos ho]
theorem dDo_pn {row : List Int} {d : Dd} (hk : d.kd = 0) (ho : d.ok = false) : dDo row d = some row := by
 unfold dDo
 rw [if_pos hk, if_neg (by rw [ho]; decide)]
theorem dDo_gn {row : List Int} {d : Dd} (hk : d.kd ≠ 0) (ho : d.ok = false) : dDo row d = if row = [] then some row else none := by
 unfold dDo
 rw [if_neg hk, if_neg (by rw [ho]; decide)]
theorem dDo_g {row : List Int} {d : Dd} (hk : d.kd ≠ 0) (ho : d.ok = true) (h : row ≠ [] ∧ stV row d.e = d.v) : dDo row d = some (if d.e = 0 then row.drop 1 else row.take (row.length - 1)) := by
 obtain ⟨h1, h2⟩ := h
 unfold stV at h2
 rw [if_neg h1] at h2
 unfold dDo
 rw [if_neg hk, if_pos ho, if_neg h1]
 by_cases he : d.e = 0
 ·rw [if_pos he] at h2 ⊢
  rw [if_pos h2, if_pos he]
 ·rw [if_neg he] at h2 ⊢
  rw [if_pos h2, if_neg he]
theorem zHg {row : List Int} {d : Dd} (hk : d.kd ≠ 0) (ho : d.ok = true) (h : ¬ (row ≠ [] ∧ stV row d.e = d.v)) : dDo row d = none := by
 unfold dDo
 rw [if_neg hk, if_pos ho]
 by_cases h1 : row = []
 ·rw [if_pos h1]
 ·rw [if_neg h1]
  have h2 : ¬ stV row d.e = d.v := fun h2 => h ⟨h1, h2⟩
  unfold stV at h2
  rw [if_neg h1] at h2
  by_cases he : d.e = 0
  ·rw [if_pos he] at h2 ⊢
   rw [if_neg h2]
  ·rw [if_neg he] at h2 ⊢
   rw [if_neg h2]
theorem RwTo.below {W w : World} {b : Nat} {C : List Int} {f t : Nat} {R : List Int} (h : RwTo W w b C f t R) : Below W.heap.size W w := by
 obtain ⟨C', f', t', h1, _⟩ := h
 exact h1.below
def RwDid (W w' : World) (b : Nat) (C : List Int) (f t : Nat) (r : Ending) (o : Option (List Int)) : Prop :=
 Below W.heap.size W w' ∧ ((∃ R, o = some R ∧ r = .returned (.bool true) ∧ RwTo W w' b C f t R) ∨ (o = none ∧ r = .returned (.bool false)))
theorem zGd {w : World} {base g N : Nat} {L : List Value} (hg : w.heap[g]? = some (.cells L.toArray 30 (0, 0))) (hl : L.length = N) (hb : base ≤ g) (hN : N ≤ maxLen) : w.ownsRow base 30 1 (.slice (some ⟨g, 0, none⟩) N N) N L :=
 ⟨by omega, .inr ⟨g, N, _, rfl, hb, hg, Nat.le_refl _, hN, by simp [hl], by rw [Nat.mul_one]; exact List.take_of_length_le (by simp [hl])⟩⟩
theorem IsU.src {w : World} {a : Option Addr} {R : List Int} (h : IsU w a R) (hp : 0 < R.length) : ∃ ad, a = some ad ∧ ∀ (j : Nat) (v : Value), (R.map u64)[j]? = some v → w.cell? (ad.add j) = some v := by
 obtain ⟨g, off, rfl, _, h3⟩ := h hp
 refine ⟨_, rfl, fun j v hj => ?_⟩
 rw [List.getElem?_map] at hj
 obtain ⟨x, hx, rfl⟩ := Option.map_eq_some_iff.1 hj
 obtain ⟨hl, rfl⟩ := List.getElem?_eq_some_iff.1 hx
 rw [zAt, h3 j hl, List.getD_eq_getElem?_getD, hx]
 rfl
def DoTo (w w' : World) (r : Ending) (o : Option (List Int)) : Prop :=
 Below w.heap.size w w' ∧ ∃ a n c ok, r = .returned (.tuple #[.slice a n c, .bool ok]) ∧ (∀ R, o = some R → ok = true ∧ n = R.length ∧ n ≤ c ∧ IsU w' a R) ∧ (o = none → ok = false)
def DoFr (w w' : World) (r : Ending) (o : Option (List Int)) : Prop :=
 Below w.heap.size w w' ∧ ∃ a n c ok, r = .returned (.tuple #[.slice a n c, .bool ok]) ∧ (∀ R, o = some R → ok = true ∧ n = R.length ∧ n ≤ c ∧ IsU w' a R ∧ ∀ k off, a = some ⟨k, off, none⟩ → w.heap.size ≤ k) ∧ (o = none → ok = false)
theorem DoFr.to {w w' : World} {r : Ending} {o : Option (List Int)} (h : DoFr w w' r o) : DoTo w w' r o := by
 obtain ⟨h0, a, n, c, ok, h1, h2, h3⟩ := h
 exact ⟨h0, a, n, c, ok, h1, fun R hR => ⟨(h2 R hR).1, (h2 R hR).2.1, (h2 R hR).2.2.1, (h2 R hR).2.2.2.1⟩, h3⟩
theorem RwDid.cases {W w' : World} {b : Nat} {C : List Int} {f t : Nat} {r : Ending} {o : Option (List Int)} (h : RwDid W w' b C f t r o) : ∃ ok, r = .returned (.bool ok) ∧ Below W.heap.size W w' ∧ (ok = true → ∃ R, o = some R ∧ RwTo W w' b C f t R) ∧ (ok = false → o = none) := by
 obtain ⟨h1, ⟨R, h2, h3, h4⟩ | ⟨h2, h3⟩⟩ := h
 ·exact ⟨true, h3, h1, fun _ => ⟨R, h2, h4⟩, fun h => Bool.noConfusion h⟩
 ·exact ⟨false, h3, h1, fun h => Bool.noConfusion h, fun _ => h2⟩
end
section
open Go.RowKit
theorem zBB : ElemAt Tryz.prog 60 4 (.bool false) 1 1 := ElemAt.mk' Tryz.underlying60 (by kernel_rfl) rfl (by decide)
def inS (S : List Bool) (i : Nat) : Prop := S.getD i false = true
theorem zF9 {S : List Bool} {i : Nat} (hi : i < S.length) (k : Nat) : inS (S.set i true) k ↔ inS S k ∨ k = i := by
 unfold inS
 rw [List.getD_eq_getElem?_getD, List.getD_eq_getElem?_getD, List.getElem?_set]
 by_cases e : i = k
 ·subst e
  rw [if_pos rfl, if_pos hi]
  simp
 ·rw [if_neg e]
  exact ⟨.inl, fun h => h.resolve_right (fun h => e h.symm)⟩
theorem zC1 {w : World} {base : Nat} {n cap g : Nat} {S : List Bool} (h : w.ownsRow base 4 1 (.slice (some ⟨g, 0, none⟩) n cap) n (S.map Value.bool)) {j : Nat} (hj : j < n) : w.cell? ⟨g, j, none⟩ = some (.bool (S.getD j false)) := by
 have hl := h.1
 rw [List.length_map] at hl
 rw [h.cellAt j (by omega), List.getElem?_map, List.getD_eq_getElem?_getD, List.getElem?_eq_getElem (by omega)]
 rfl
def tU (base : Nat) (a : Option Addr) (R : List Int) : Thing := ⟨fun w => IsU w a R ∧ (0 < R.length → ∀ k off, a = some ⟨k, off, none⟩ → base ≤ k), fun k => 0 < R.length ∧ ∃ off, a = some ⟨k, off, none⟩⟩
def SrL (base bs : Nat) (a0 : Option Addr) (n cap0 sg : Nat) (S : List Bool) (OV : Value) (O : List Nat) : List Thing :=
 [tObj base bs [.slice a0 n cap0, .slice (some ⟨sg, 0, none⟩) n n, OV], tRow base 4 1 (.slice (some ⟨sg, 0, none⟩) n n) n (S.map Value.bool), tRow base 3 1 OV O.length (O.map (fun i : Nat => i64 (i : Int)))]
def SrH (W w : World) (bs : Nat) (a0 : Option Addr) (n cap0 : Nat) (S : List Bool) (O : List Nat) (X : List Thing) : Prop :=
 S.length = n ∧ ∃ sg OV, Hold W w (SrL W.heap.size bs a0 n cap0 sg S OV O ++ X)
section
variable {W w w' : World} {bs : Nat} {a0 : Option Addr} {n cap0 : Nat} {S : List Bool} {O : List Nat} {X : List Thing}
theorem SrH.later (h : SrH W w bs a0 n cap0 S O X) (e : Below w.heap.size w w') : SrH W w' bs a0 n cap0 S O X := by
 obtain ⟨h1, sg, OV, h2⟩ := h
 exact ⟨h1, sg, OV, h2.later e⟩
theorem SrH.below (h : SrH W w bs a0 n cap0 S O X) : Below W.heap.size W w := by
 obtain ⟨h1, sg, OV, h2⟩ := h
 exact h2.below
theorem SrH.at' (h : SrH W w bs a0 n cap0 S O X) : ∃ sg OV, w.cell? ⟨bs, 0, none⟩ = some (.slice a0 n cap0) ∧ w.cell? ⟨bs, 1, none⟩ = some (.slice (some ⟨sg, 0, none⟩) n n) ∧ w.cell? ⟨bs, 2, none⟩ = some OV ∧ ∀ j, j < n → w.cell? ⟨sg, j, none⟩ = some (.bool (S.getD j false)) := by
 obtain ⟨h1, sg, OV, h2⟩ := h
 have hO : IsObj w bs [.slice a0 n cap0, .slice (some ⟨sg, 0, none⟩) n n, OV] := (h2.has 0 _ rfl).1
 exact ⟨sg, OV, hO.at' 0 _ rfl, hO.at' 1 _ rfl, hO.at' 2 _ rfl, fun j hj => zC1 (h2.has 1 _ rfl) hj⟩
end
end
section
open Go.RowKit
theorem zHr {R : List Int} {d : Dd} (hk : d.kd = 1) (he : d.e = 0 ∨ d.e = 1) : (if d.kd = 1 ∧ R ≠ [] then (if d.e = 1 then R.getD (R.length - 1) 0 else R.getD 0 0) else 0) = stV R d.e := by
 unfold stV
 by_cases hr : R = []
 ·rw [if_pos hr, if_neg (fun h => h.2 hr)]
 ·rw [if_neg hr, if_pos ⟨hk, hr⟩]
  rcases he with he | he
  ·rw [he, if_pos rfl, if_neg (by decide)]
  ·rw [he, if_pos rfl, if_neg (by decide)]
section
variable {W w W1 w4 : World} {bs : Nat} {a0 : Option Addr} {n cap0 sg i : Nat} {S : List Bool} {OV v' : Value} {O : List Nat} {X : List Thing}
end
theorem cnt_lt {S : List Bool} {i : Nat} (hi : i < S.length) (h : ¬ inS S i) : S.countP id < S.length := by
 rcases Nat.lt_or_ge (S.countP id) S.length with h1 | h1
 ·exact h1
 ·exfalso
  have h2 := List.countP_eq_length.1 (Nat.le_antisymm List.countP_le_length h1)
  refine h ?_
  unfold inS
  rw [List.getD_eq_getElem?_getD, List.getElem?_eq_getElem hi]
  exact h2 _ (List.getElem_mem hi)
theorem zIV {S : List Bool} {i : Nat} (hi : i < S.length) (h : ¬ inS S i) : (S.set i true).countP id = S.countP id + 1 := by
 have h2 : S[i] = false := by
  unfold inS at h
  rw [List.getD_eq_getElem?_getD, List.getElem?_eq_getElem hi] at h
  simpa using h
 rw [List.countP_set hi, h2]
 simp
theorem SrH.less {W w : World} {bs : Nat} {a0 : Option Addr} {n cap0 : Nat} {S : List Bool} {O : List Nat} {X Y : List Thing} (h : SrH W w bs a0 n cap0 S O (X ++ Y)) : SrH W w bs a0 n cap0 S O X := by
 obtain ⟨h1, sg, OV, h2⟩ := h
 refine ⟨h1, sg, OV, ?_⟩
 rw [← List.append_assoc] at h2
 exact h2.less
def ExtTo (l : List Dd) (W w' : World) (r : Ending) (bs : Nat) (a0 : Option Addr) (n cap0 : Nat) (S : List Bool) (O : List Nat) (X : List Thing) (R : List Int) : Prop :=
 ∃ b S' O', r = .returned (.bool b) ∧ SrH W w' bs a0 n cap0 S' O' X ∧ (b = true → ∃ s, O' = O ++ s ∧ Lin l (inS S) R s) ∧ (b = false → S' = S ∧ O' = O ∧ ¬ ∃ s, Lin l (inS S) R s)
def NoB (l : List Dd) (S : List Bool) (R : List Int) (j : Nat) : Prop := ∀ (d : Dd) (r : List Int), l[j]? = some d → LFree l (inS S) j d → dDo R (dAns R d) = some r → ¬ ∃ s, Lin l (fun k => inS S k ∨ k = j) r s
theorem zCh (n : Nat) : (madeCells (Value.bool false).cells (n * 1)).toList = (List.replicate n false).map Value.bool := by
 rw [Nat.mul_one, List.map_replicate]
 exact toList_madeCells_one (.bool false) n
end
section
open Go.RowKit
def DoT2 (w w' : World) (a0 : Option Addr) (r : Ending) (o : Option (List Int)) : Prop :=
 Below w.heap.size w w' ∧ ∃ a n c ok, r = .returned (.tuple #[.slice a n c, .bool ok]) ∧ (∀ R, o = some R → ok = true ∧ n = R.length ∧ n ≤ c ∧ IsU w' a R) ∧ (o = none → ok = false) ∧ (ok = true → ∀ k off, a = some ⟨k, off, none⟩ → (∃ off', a0 = some ⟨k, off', none⟩) ∨ w.heap.size ≤ k)
theorem DoT2.to {w w' : World} {a0 : Option Addr} {r : Ending} {o : Option (List Int)} (h : DoT2 w w' a0 r o) : DoTo w w' r o := by
 obtain ⟨h0, a, n, c, ok, h1, h2, h3, _⟩ := h
 exact ⟨h0, a, n, c, ok, h1, h2, h3⟩
theorem zA0 {w w' : World} {a0 a : Option Addr} {c : Nat} {R : List Int} {o : Option (List Int)} {n : Nat} (hb : Below w.heap.size w w') (ho : o = some R) (hn : n = R.length) (hc : n ≤ c) (hu : IsU w' a R) (hf : ∀ k off, a = some ⟨k, off, none⟩ → (∃ off', a0 = some ⟨k, off', none⟩) ∨ w.heap.size ≤ k) : DoT2 w w' a0 (.returned (.tuple #[.slice a n c, .bool true])) o := by
 refine ⟨hb, a, n, c, true, rfl, fun R' h => ?_, fun h => ?_, fun _ => hf⟩
 ·rw [ho] at h
  cases h
  exact ⟨rfl, hn, hc, hu⟩
 ·rw [ho] at h
  cases h
theorem zBU {w w' : World} {a0 a : Option Addr} {n c : Nat} {o : Option (List Int)} (hb : Below w.heap.size w w') (ho : o = none) : DoT2 w w' a0 (.returned (.tuple #[.slice a n c, .bool false])) o := by
 refine ⟨hb, a, n, c, false, rfl, fun R' h => ?_, (fun _ => rfl), fun h => Bool.noConfusion h⟩
 rw [ho] at h
 cases h
theorem IsU.own {w : World} {base n cap : Nat} {A : Option Addr} {R : List Int} (h : w.ownsRow base 30 1 (.slice A n cap) n (R.map u64)) : IsU w A R ∧ n = R.length ∧ n ≤ cap := by
 have hl := h.1
 rw [List.length_map, Nat.mul_one] at hl
 refine ⟨fun hp => ?_, hl.symm, ?_⟩
 ·obtain ⟨g, cp, hv, _, hg⟩ := zAl h (by omega)
  cases hv
  exact ⟨g, 0, rfl, hg, fun i hi => by rw [Nat.zero_add]; exact zET (k := .u64) h (by omega)⟩
 ·rcases Nat.eq_zero_or_pos n with h0 | h0
  ·omega
  ·obtain ⟨g, cp, hv, hc, _⟩ := zAl h h0
   cases hv
   exact hc
theorem IsU.toSrc {w : World} {a : Option Addr} {R : List Int} (h : IsU w a R) : Src w 1 a R.length (R.map u64) := by
 refine ⟨fun h0 => ?_, by rw [List.length_map, Nat.mul_one], fun ad had j u hj => ?_, fun u hu => by obtain ⟨x, _, rfl⟩ := List.mem_map.1 hu; rfl⟩
 ·rcases Nat.eq_zero_or_pos R.length with h1 | h1
  ·exact h1
  ·obtain ⟨g, off, h2, _⟩ := h h1
   rw [h0] at h2
   cases h2
 ·have hp : 0 < R.length := by
   have := (List.getElem?_eq_some_iff.1 hj).1
   rw [List.length_map] at this
   omega
  obtain ⟨ad', h1, h2⟩ := h.src hp
  rw [had] at h1
  cases h1
  exact h2 j u hj
theorem zIF (w : World) (x : Int) (base : Nat) (hb : base ≤ w.heap.size) : (w.alloc (.cells #[.int .u64 x] 30)).ownsRow base 30 1 (.slice (some ⟨w.heap.size, 0, none⟩) 1 1) 1 [u64 x] :=
 zGd (L := [u64 x]) (heap_alloc_new w _) rfl hb (by unfold maxLen; omega)
theorem ap1 {base g c n : Nat} {W1 w4 : World} {v1 : Value} {xs : List Value} (hG : Grew W1 w4 base 30 1 (.slice (some ⟨g, 0, none⟩) 0 c) v1 n xs) (p : Addr) (u : Value) (hp : p.block ≠ g) (hc : W1.cell? p = some u) : w4.cell? p = some u :=
 hG.grown.cell hc (fun h => hp (Option.some.inj h))
theorem zFy {W : World} {b : Nat} {x : Int} (h : W.cell? ⟨b, 0, none⟩ = some (u64 x)) : Src W 1 (some ⟨b, 0, none⟩) 1 [u64 x] :=
 ⟨(fun h => by cases h), rfl, fun ad had j u hj => by
  cases had
  rw [zAt, Nat.zero_add]
  have hj1 := (List.getElem?_eq_some_iff.1 hj).1
  obtain rfl : j = 0 := by simp at hj1; omega
  cases hj
  exact h, zFt .u64 x⟩
theorem zGZ (W : World) (x : Int) (ty : TypeId) : Src (W.alloc (.cells #[.int .u64 x] ty)) 1 (some ⟨W.heap.size, 0, none⟩) 1 [u64 x] := zFy (by simp)
theorem zDP {W : World} {base n : Nat} {v : Value} {xs : List Value} (o : Obj) (h : W.ownsRow base 30 1 v n xs) : (W.alloc o).ownsRow base 30 1 v n xs :=
 (Keep.of_below (T := fun _ => False) (zAA (Below.refl _ _) _)).row h (fun _ _ h => h)
theorem mk0 {W : World} {g base : Nat} (hg : W.heap.size = g) (hb : base ≤ g) : (W.alloc (.cells #[] 30)).ownsRow base 30 1 (.slice (some ⟨g, 0, none⟩) 0 0) 0 [] := by
 subst hg
 exact World.ownsRow_made (base := base) (e := 30) (size := 1) W #[] 0 hb (by unfold maxLen; omega) (by simp)
theorem zGt {w4 : World} {base : Nat} {v : Value} {R : List Int} (h : w4.ownsRow base 30 1 v (0 + R.length) ([] ++ R.map u64)) : ∃ A c, v = .slice A R.length c ∧ w4.ownsRow base 30 1 (.slice A R.length c) R.length (R.map u64) := by
 rw [Nat.zero_add, List.nil_append] at h
 obtain ⟨A, c, rfl⟩ := zAN h
 exact ⟨A, c, rfl, h⟩
theorem zGV {w4 : World} {base n : Nat} {v : Value} {R : List Int} {x : Int} (h : w4.ownsRow base 30 1 v n (R.map u64 ++ [u64 x])) : ∃ A c, v = .slice A n c ∧ IsU w4 A (R ++ [x]) ∧ n = (R ++ [x]).length ∧ n ≤ c ∧ ∀ k off, A = some ⟨k, off, none⟩ → base ≤ k := by
 obtain ⟨A, c, rfl⟩ := zAN h
 have h' : w4.ownsRow base 30 1 (.slice A n c) n ((R ++ [x]).map u64) := by rw [List.map_append]; exact h
 obtain ⟨h1, h2, h3⟩ := IsU.own h'
 exact ⟨A, c, rfl, h1, h2, h3, fun k off hk => by subst hk; exact (h'.lt k rfl).1⟩
theorem zBg {w W w4 : World} {v v' : Value} {n m : Nat} {xs ys : List Value} (hb : Below w.heap.size w W) (ho : W.ownsRow w.heap.size 30 1 v m ys) (hG : Grew W w4 w.heap.size 30 1 v v' n xs) : Below w.heap.size w w4 :=
 zAS hb (Keep.of_grown (T := fun k => w.heap.size ≤ k) hG.grown (fun k hk => (ho.lt k hk).1)) hb.size (fun i hi => hi)
theorem zGw (w : World) (a : Option Addr) (cap : Nat) (R : List Int) (d : Dd) (h : IsU w a R) (hc : R.length ≤ cap) (hn : R.length ≤ 900000) :
  Calls Tryz.prog 55 #[.slice a R.length cap, d.val] w fun r w' => DoT2 w w' a r (dDo R d) := by
 have HU := zIW h
 clear h
 obtain ⟨who, kd, e, x, st, fr, till, ok, v, lo, hi⟩ := d
 have HB := zIW (zAA (Below.refl w.heap.size w) (Dd.obj ⟨who, kd, e, x, st, fr, till, ok, v, lo, hi⟩ 77))
 by_cases hk : kd = 0
 case pos =>
  subst hk
  cases ok
  case false =>
   have HD : Hid (dDo R ⟨who, 0, e, x, st, fr, till, false, v, lo, hi⟩ = _) := dDo_pn (row := R) rfl rfl
   go_enter Tryz.func55, Tryz.ntmps55
   go_wp2_with fail
   go_ret2
   exact zA0 HB.out HD.out rfl hc (HU.out.later HB.out) (fun k off h => .inl ⟨off, h⟩)
  case true =>
   have HD : Hid (dDo R ⟨who, 0, e, x, st, fr, till, true, v, lo, hi⟩ = _) := dDo_p (row := R) rfl rfl
   by_cases he : e = 0
   case pos =>
    subst he
    have HBX := zIW (zAA HB.out (.cells #[.int .u64 x] 30))
    have hro := zIF (w.alloc (Dd.obj ⟨who, 0, 0, x, st, fr, till, true, v, lo, hi⟩ 77)) x w.heap.size HB.out.size
    rw [World.size_alloc] at hro
    have HRO := zIW hro
    clear hro
    have HSRC := zIW (HU.out.later HBX.out).toSrc
    go_enter Tryz.func55, Tryz.ntmps55
    go_wp2_with (at_builtin; refine zAM rfl _ _ 70 rfl w.heap.size 30 _ 1 8 zAX _ 1 [u64 x] rfl HRO.out a R.length cap (R.map u64) rfl HSRC.out (by unfold maxLen; omega) (by omega) HBX.out.size ?_; intro v' w4 hG)
    obtain ⟨A, cp, rfl⟩ := zAN hG.own
    have HB4 := zIW (zBg HBX.out HRO.out hG)
    have HUO := zIW (show (IsU w4 A (x :: R) ∧ _ ∧ _) ∧ ∀ k off, A = some ⟨k, off, none⟩ → w.heap.size ≤ k from ⟨IsU.own (R := x :: R) hG.own, fun k off h => by subst h; exact (hG.own.lt k rfl).1⟩)
    clear hG
    go_wp2_with fail
    go_ret2
    exact zA0 HB4.out HD.out HUO.out.1.2.1 HUO.out.1.2.2 HUO.out.1.1 (fun k off h => .inr (HUO.out.2 k off h))
   case neg =>
    have p2 : (e == 0) = false := beq_false_of_ne he
    rw [if_neg he] at HD
    clear he
    have HSRC := zIW (fun (W' : World) (hb : Below w.heap.size w W') => (HU.out.later hb).toSrc)
    go_enter Tryz.func55, Tryz.ntmps55
    go_wp2_with fail
    go_region_law (first
     | (refine zAZ rfl _ _ 70 rfl w.heap.size 30 _ 1 8 zAX (.slice (some ⟨_, 0, none⟩) 0 0) 0 [] rfl ?_ a R.length cap (R.map u64) rfl ?_ (by unfold maxLen; omega) (by omega) ?_ ?_; (focus (first | exact mk0 (by simp) (by omega) | exact zDP _ (mk0 (by simp) (by omega)))); (focus exact HSRC.out _ (by repeat (first | exact Below.refl _ _ | refine zAA ?_ _ | refine Below.drew ?_))); (focus (simp; omega)); intro v1 w4 hG1; have hK1 := ap1 hG1; have c3' := hK1 ⟨w.heap.size, 3, none⟩ (u64 x) (by simp <;> omega) (by simp [go_sem]); replace hK1 := zIW hK1; have hB4 := zBg (by repeat (first | exact Below.refl _ _ | refine zAA ?_ _ | refine Below.drew ?_)) (by first | exact mk0 (by simp) (by omega) | exact zDP _ (mk0 (by simp) (by omega))) hG1; replace hB4 := zIW hB4; obtain ⟨A1, cp1, rfl, hO1⟩ := zGt hG1.own; replace hO1 := zIW hO1; clear hG1)
     | (refine zAZ rfl _ _ 70 rfl w.heap.size 30 _ 1 8 zAX (.slice A1 R.length cp1) R.length (R.map u64) rfl ?_ (some ⟨_, 0, none⟩) 1 1 [u64 x] rfl ?_ (by unfold maxLen; omega) (by omega) ?_ ?_; (focus (first | exact hO1.out | exact zDP _ hO1.out)); (focus (first | exact zGZ _ _ _ | exact zFy (hK1.out _ _ (by simp <;> omega) (by simp [go_sem])))); (focus (have := hB4.out.size; first | exact this | (simp; omega))); intro v2 w5 hG2; have hB5 := zIW (zBg (by first | exact hB4.out | exact zAA hB4.out _) (by first | exact hO1.out | exact zDP _ hO1.out) hG2); obtain ⟨A2, cp2, rfl, hU2⟩ := zGV hG2.own; replace hU2 := zIW hU2; clear hG2))
    all_goals
     go_wp2
     go_ret2
     exact zA0 hB5.out HD.out hU2.out.2.1 hU2.out.2.2.1 hU2.out.1 (fun k off h => .inr (hU2.out.2.2.2 k off h))
 case neg =>
  have p1 : (kd == 0) = false := beq_false_of_ne hk
  cases ok
  case false =>
   have HD : Hid (dDo R ⟨who, kd, e, x, st, fr, till, false, v, lo, hi⟩ = _) := dDo_gn (row := R) hk rfl
   clear hk
   by_cases hr : R.length = 0
   case pos =>
    obtain rfl := List.eq_nil_of_length_eq_zero hr
    show Calls _ _ #[.slice a 0 cap, _] _ _
    clear hr
    go_enter Tryz.func55, Tryz.ntmps55
    go_wp2_with fail
    go_ret2
    exact zA0 HB.out HD.out rfl (Nat.zero_le _) (HU.out.later HB.out) (fun k off h => .inl ⟨off, h⟩)
   case neg =>
    have p2 : ((R.length : Int) == 0) = false := beq_false_of_ne (by omega)
    have HN := zIW hr
    clear hr
    go_enter Tryz.func55, Tryz.ntmps55
    go_wp2_with fail
    go_ret2
    exact zBU HB.out (HD.out.trans (if_neg (fun h => HN.out (by rw [h]; rfl))))
  case true =>
   rcases Nat.eq_zero_or_pos R.length with hr | hr
   case inl =>
    obtain rfl := List.eq_nil_of_length_eq_zero hr
    show Calls _ _ #[.slice a 0 cap, _] _ _
    have HD : Hid (dDo [] ⟨who, kd, e, x, st, fr, till, true, v, lo, hi⟩ = none) := zHg hk rfl (fun h => h.1 rfl)
    clear hr hk
    go_enter Tryz.func55, Tryz.ntmps55
    go_wp2_with fail
    go_ret2
    exact zBU HB.out HD.out
   case inr =>
    have hne : R ≠ [] := List.length_pos_iff.1 hr
    obtain ⟨g, off, rfl, hg, hcell⟩ := HU.out hr
    have hB0 := HB.out
    have c0 := (hB0.cell (p := ⟨g, off, none⟩) hg).trans (hcell 0 hr)
    have cl := (hB0.cell (p := ⟨g, off + (R.length - 1), none⟩) hg).trans (hcell (R.length - 1) (by omega))
    have p2 : ((R.length : Int) == 0) = false := beq_false_of_ne (by omega)
    have q1 : (1 : Int) ≤ (R.length : Int) := by omega
    have HR := zIW hne
    have HK := zIW hk
    have HX := zIW hr
    have HC := zIW hc
    have HO := zIW (fun (h : R ≠ [] ∧ stV R e = v) => dDo_g (d := ⟨who, kd, e, x, st, fr, till, true, v, lo, hi⟩) hk rfl h)
    have HOO := zIW (fun (h : ¬ (R ≠ [] ∧ stV R e = v)) => zHg (d := ⟨who, kd, e, x, st, fr, till, true, v, lo, hi⟩) hk rfl h)
    have q0 : (0 : Int) < (R.length : Int) := by omega
    clear hcell hne hk hB0
    by_cases he : e = 0
    case pos =>
     subst he
     have hst : stV R 0 = R.getD 0 0 := by unfold stV; rw [if_neg HR.out, if_pos rfl]
     have HST := zIW hst
     have HF : Hid (∀ (b : Bool) (w' : World), Below w.heap.size w w' → (b = true ↔ R.getD 0 0 = v) → ∀ A c', ((A = some ⟨g, off + 1, none⟩ ∧ c' = cap - 1) ∨ (cap = 1 ∧ A = some ⟨g, off, none⟩)) → DoT2 w w' (some ⟨g, off, none⟩) (.returned (.tuple #[.slice A (R.length - 1) c', .bool b])) (dDo R ⟨who, kd, 0, x, st, fr, till, true, v, lo, hi⟩)) := fun b w' hb' hbv A c' hA => by
      cases b with
      | false => exact zBU hb' (HOO.out (fun h => Bool.noConfusion (hbv.2 (HST.out.symm.trans h.2))))
      | true =>
       refine zA0 (R := R.drop 1) hb' (HO.out ⟨HR.out, HST.out.trans (hbv.1 rfl)⟩) (by rw [List.length_drop]) (by have := HC.out; omega) ?_ (fun k o h => by rcases hA with ⟨rfl, _⟩ | ⟨_, rfl⟩ <;> (cases h; exact .inl ⟨_, rfl⟩))
       rcases hA with ⟨rfl, rfl⟩ | ⟨hA, _⟩
       ·exact IsU.tail (HU.out.later hb')
       ·rw [List.drop_of_length_le (by have := HC.out; omega)]
        exact IsU.nil _ _
     clear hst cl HO HOO HST HU
     generalize R.getD 0 0 = y at c0 HF
     generalize R.length = ls at *
     by_cases hyv : y = v
     case pos =>
      subst hyv
      go_enter Tryz.func55, Tryz.ntmps55
      go_wp2_with fail
      refine zAR ((0, true) :: (1, true) :: (2, true) :: (3, true) :: (4, true) :: (5, true) :: (6, true) :: (7, true) :: (8, true) :: (9, true) :: (10, true) :: []) (by kernel_rfl) (by kernel_rfl) (by kernel_rfl) (by decide) (fun _ _ _ _ _ h => h) (fun hHeld => ?_)
      repeat (first
       | (refine zAC (v := ?_) rfl ?_ ?_ ?_; rotate_left 1; rfl; (focus (intro wS hSw; have hk := zAK hSw; go_simp; first | done | with_reducible rfl)); (try simp only [Act.put, qset]))
       | (refine zAB rfl ?_ ?_; rfl; (try simp only [Act.put, qset]))
       | (refine zAH rfl (fun K hK => ?_); go_simp; (try skip); (try go_wp2_with fail); refine hK.out _ _ ?_ ?_; (focus (first | exact zAD hHeld hb' | exact zAA hHeld _ | exact hHeld)); (try clear hb'); clear hHeld hK K; intro hHeld; (try simp only [Act.put, qset])))
      first | refine zAI ?_ | skip
      all_goals
       have HB2 := zIW (zAD HB.out hHeld)
       clear hHeld
       go_wp2_with fail
       all_goals
        go_ret2
        refine HF.out true _ HB2.out (by first | exact ⟨fun _ => rfl, fun _ => rfl⟩ | simp) _ _ ?_
        first | exact .inl ⟨rfl, rfl⟩ | exact .inr ⟨by omega, rfl⟩
     case neg =>
      have e3 : (y == v) = false := beq_false_of_ne hyv
      have HYV := zIW hyv
      clear hyv
      go_enter Tryz.func55, Tryz.ntmps55
      go_wp2_with fail
      refine zAR ((0, true) :: (1, true) :: (2, true) :: (3, true) :: (4, true) :: (5, true) :: (6, true) :: (7, true) :: (8, true) :: (9, true) :: (10, true) :: []) (by kernel_rfl) (by kernel_rfl) (by kernel_rfl) (by decide) (fun _ _ _ _ _ h => h) (fun hHeld => ?_)
      repeat (first
       | (refine zAC (v := ?_) rfl ?_ ?_ ?_; rotate_left 1; rfl; (focus (intro wS hSw; have hk := zAK hSw; go_simp; first | done | with_reducible rfl)); (try simp only [Act.put, qset]))
       | (refine zAB rfl ?_ ?_; rfl; (try simp only [Act.put, qset]))
       | (refine zAH rfl (fun K hK => ?_); go_simp; (try skip); (try go_wp2_with fail); refine hK.out _ _ ?_ ?_; (focus (first | exact zAD hHeld hb' | exact zAA hHeld _ | exact hHeld)); (try clear hb'); clear hHeld hK K; intro hHeld; (try simp only [Act.put, qset])))
      first | refine zAI ?_ | skip
      all_goals
       have HB2 := zIW (zAD HB.out hHeld)
       clear hHeld
       go_wp2_with fail
       all_goals
        go_ret2
        refine HF.out false _ HB2.out ⟨fun h => Bool.noConfusion h, fun h => absurd h HYV.out⟩ _ _ ?_
        first | exact .inl ⟨rfl, rfl⟩ | exact .inr ⟨by omega, rfl⟩
    case neg =>
     have p3 : (e == 0) = false := beq_false_of_ne he
     have hst : stV R e = R.getD (R.length - 1) 0 := by unfold stV; rw [if_neg HR.out, if_neg he]
     have HST := zIW hst
     have HE := zIW he
     have HF : Hid (∀ (b : Bool) (w' : World), Below w.heap.size w w' → (b = true ↔ R.getD (R.length - 1) 0 = v) → DoT2 w w' (some ⟨g, off, none⟩) (.returned (.tuple #[.slice (some ⟨g, off, none⟩) (R.length - 1) cap, .bool b])) (dDo R ⟨who, kd, e, x, st, fr, till, true, v, lo, hi⟩)) := fun b w' hb' hbv => by
      cases b with
      | false => exact zBU hb' (HOO.out (fun h => Bool.noConfusion (hbv.2 (HST.out.symm.trans h.2))))
      | true => exact zA0 (R := R.take (R.length - 1)) hb' ((HO.out ⟨HR.out, HST.out.trans (hbv.1 rfl)⟩).trans (congrArg some (if_neg HE.out))) (by rw [List.length_take]; omega) (by have := HC.out; omega) ((HU.out.later hb').init _) (fun k o h => .inl ⟨o, h⟩)
     clear hst c0 HO HOO HST HU he
     generalize R.getD (R.length - 1) 0 = y at cl HF
     obtain ⟨m, hm⟩ : ∃ m, R.length = m + 1 := ⟨R.length - 1, by omega⟩
     rw [show R.length - 1 = m by omega] at cl HF
     have hw : IntKind.i64.wrap ((R.length : Int) - 1) = (m : Int) := by rw [IntWalk.i64_in _ (by omega)]; omega
     have q3 : (m : Int) < (R.length : Int) := by omega
     have q4 : (m : Int) ≤ (cap : Int) := by omega
     clear hm
     generalize R.length = ls at *
     by_cases hyv : y = v
     case pos =>
      subst hyv
      go_enter Tryz.func55, Tryz.ntmps55
      go_wp2_with fail
      refine zAR ((0, true) :: (1, true) :: (2, true) :: (3, true) :: (4, true) :: (5, true) :: (6, true) :: (7, true) :: (8, true) :: (9, true) :: (10, true) :: (11, true) :: (12, true) :: (13, true) :: (14, true) :: []) (by kernel_rfl) (by kernel_rfl) (by kernel_rfl) (by decide) (fun _ _ _ _ _ h => h) (fun hHeld => ?_)
      repeat (first
       | (refine zAC (v := ?_) rfl ?_ ?_ ?_; rotate_left 1; rfl; (focus (intro wS hSw; have hk := zAK hSw; go_simp; first | done | with_reducible rfl)); (try simp only [Act.put, qset]))
       | (refine zAB rfl ?_ ?_; rfl; (try simp only [Act.put, qset]))
       | (refine zAH rfl (fun K hK => ?_); go_simp; (try skip); (try go_wp2_with fail); refine hK.out _ _ ?_ ?_; (focus (first | exact zAD hHeld hb' | exact zAA hHeld _ | exact hHeld)); (try clear hb'); clear hHeld hK K; intro hHeld; (try simp only [Act.put, qset])))
      first | refine zAI ?_ | skip
      have HB2 := zIW (zAD HB.out hHeld)
      clear hHeld
      go_wp2_with fail
      go_ret2
      exact HF.out true _ HB2.out (by first | exact ⟨fun _ => rfl, fun _ => rfl⟩ | simp)
     case neg =>
      have e3 : (y == v) = false := beq_false_of_ne hyv
      have HYV := zIW hyv
      clear hyv
      go_enter Tryz.func55, Tryz.ntmps55
      go_wp2_with fail
      refine zAR ((0, true) :: (1, true) :: (2, true) :: (3, true) :: (4, true) :: (5, true) :: (6, true) :: (7, true) :: (8, true) :: (9, true) :: (10, true) :: (11, true) :: (12, true) :: (13, true) :: (14, true) :: []) (by kernel_rfl) (by kernel_rfl) (by kernel_rfl) (by decide) (fun _ _ _ _ _ h => h) (fun hHeld => ?_)
      repeat (first
       | (refine zAC (v := ?_) rfl ?_ ?_ ?_; rotate_left 1; rfl; (focus (intro wS hSw; have hk := zAK hSw; go_simp; first | done | with_reducible rfl)); (try simp only [Act.put, qset]))
       | (refine zAB rfl ?_ ?_; rfl; (try simp only [Act.put, qset]))
       | (refine zAH rfl (fun K hK => ?_); go_simp; (try skip); (try go_wp2_with fail); refine hK.out _ _ ?_ ?_; (focus (first | exact zAD hHeld hb' | exact zAA hHeld _ | exact hHeld)); (try clear hb'); clear hHeld hK K; intro hHeld; (try simp only [Act.put, qset])))
      first | refine zAI ?_ | skip
      have HB2 := zIW (zAD HB.out hHeld)
      clear hHeld
      go_wp2_with fail
      go_ret2
      exact HF.out false _ HB2.out ⟨fun h => Bool.noConfusion h, fun h => absurd h HYV.out⟩
theorem zIS (w : World) (a : Option Addr) (cap : Nat) (R : List Int) (d : Dd) (h : IsU w a R) (hc : R.length ≤ cap) (hn : R.length ≤ 900000) :
  Calls Tryz.prog 55 #[.slice a R.length cap, d.val] w fun r w' => DoTo w w' r (dDo R d) := (zGw w a cap R d h hc hn).mono fun _ _ h => h.to
end
section
open Go.RowKit
def exA : Dd := ⟨0, 0, 1, 1, 0, 0, 3, true, 0, 0, 0⟩
def exB : Dd := ⟨1, 0, 1, 2, 0, 1, 2, true, 0, 0, 0⟩
def exG : Dd := ⟨0, 1, 1, 0, 0, 4, 5, true, 1, 0, 0⟩
def exL : List Dd := [exA, exB, exG]
end
section
open Go.RowKit
def OwnD (w W : World) (v : Value) (n : Nat) (L : List Dd) : Prop := L.length = n ∧ Below w.heap.size w W ∧ W.ownsRow w.heap.size 77 11 v n (flatD L)
section
variable {w W W' : World} {v v' : Value} {n : Nat} {L : List Dd} {d : Dd}
theorem OwnD.later (h : OwnD w W v n L) (e : Below W.heap.size W W') : OwnD w W' v n L :=
 ⟨h.1, zAD h.2.1 e, (Keep.of_below (T := fun _ => False) e).row h.2.2 (fun _ _ h => h)⟩
theorem OwnD.set (h : OwnD w W v n L) {B : Nat} (hB : ∀ k, v.ownBlock = some k → k ≠ B) (hw : w.heap.size ≤ B) (j : Nat) (u : Value) : OwnD w (W.setCell ⟨B, j, none⟩ u) v n L :=
 ⟨h.1, zAF h.2.1 hw u, ((Keep.refl (fun k => k = B) W).setCell ⟨B, j, none⟩ rfl u).row h.2.2 hB⟩
theorem OwnD.nil (h : Below w.heap.size w W) : OwnD w (W.alloc (.cells #[] 77)) (.slice (some ⟨W.heap.size, 0, none⟩) 0 0) 0 [] :=
 ⟨rfl, zAA h _, World.ownsRow_made (base := w.heap.size) (e := 77) (size := 11) W #[] 0 h.size (by unfold maxLen; omega) (by simp)⟩
theorem OwnD.grew (h : OwnD w W v n L) (hG : Grew W W' w.heap.size 77 11 v v' (n + 1) (flatD L ++ d.list)) : OwnD w W' v' (n + 1) (L ++ [d]) := by
 refine ⟨by rw [List.length_append, List.length_singleton, h.1], zAS h.2.1 (Keep.of_grown (T := fun k => w.heap.size ≤ k) hG.grown (fun k hk => (h.2.2.lt k hk).1)) h.2.1.size (fun i hi => hi), ?_⟩
 rw [zBD]
 have := hG.own
 simpa [flatD] using this
end
end
section
open Go.RowKit
theorem zDC (w : World) (a : Option Addr) (cap : Nat) (R : List Int) (d : Dd) (h : IsU w a R) (hc : R.length ≤ cap) (hn : R.length ≤ 1000000) (he : d.e = 0 ∨ d.e = 1) :
  Calls Tryz.prog 56 #[.slice a R.length cap, d.val] w fun r w' => r = .returned (dAns R d).val ∧ Below w.heap.size w w' := by
 have HU := zIW h
 by_cases ht : 0 ≤ d.till
 case pos =>
  have HB := zIW (zAA (zAA (Below.refl w.heap.size w) (d.obj 77)) (d.obj 77))
  have e1 : decide (0 ≤ d.till) = true := decide_eq_true ht
  have HA : Hid (dAns R d = d) := if_pos ht
  clear ht h
  go_enter Tryz.func56, Tryz.ntmps56
  go_wp2_with fail
  rw [HA.out]
  exact bodyPost_ret (v := d.val) (by simp [results, Tryz.results56, go_sem]) rfl ⟨rfl, HB.out⟩
 case neg =>
  have e1 : decide (0 ≤ d.till) = false := decide_eq_false ht
  by_cases hk : d.kd = 1
  case neg =>
   have HB := zIW (zAA (zAA (Below.refl w.heap.size w) (Dd.obj { d with ok := true, v := 0, lo := 0, hi := 0 } 77)) (Dd.obj { d with ok := true, v := 0, lo := 0, hi := 0 } 77))
   have p1 : (d.kd == 1) = false := beq_false_of_ne hk
   have HA : Hid (dAns R d = { d with ok := true, v := 0, lo := 0, hi := 0 }) := by
    show _ = _
    unfold dAns
    rw [if_neg ht, if_neg (fun h => hk h.1)]
   clear ht hk he h
   go_enter Tryz.func56, Tryz.ntmps56
   go_wp2_with fail
   rw [HA.out]
   exact bodyPost_ret (v := Dd.val { d with ok := true, v := 0, lo := 0, hi := 0 }) (by simp [results, Tryz.results56, go_sem]) rfl ⟨rfl, HB.out⟩
  case pos =>
   have p1 : (d.kd == 1) = true := beq_iff_eq.2 hk
   rcases Nat.eq_zero_or_pos R.length with h0 | hp
   case inl =>
    obtain rfl := List.eq_nil_of_length_eq_zero h0
    have HB := zIW (zAA (zAA (Below.refl w.heap.size w) (Dd.obj { d with ok := true, v := 0, lo := 0, hi := 0 } 77)) (Dd.obj { d with ok := true, v := 0, lo := 0, hi := 0 } 77))
    have HA : Hid (dAns [] d = { d with ok := true, v := 0, lo := 0, hi := 0 }) := by
     show _ = _
     unfold dAns
     rw [if_neg ht, if_neg (fun h => h.2 rfl)]
    show Calls _ _ #[.slice a 0 cap, _] _ _
    clear ht hk he h h0
    go_enter Tryz.func56, Tryz.ntmps56
    go_wp2_with fail
    rw [HA.out]
    exact bodyPost_ret (v := Dd.val { d with ok := true, v := 0, lo := 0, hi := 0 }) (by simp [results, Tryz.results56, go_sem]) rfl ⟨rfl, HB.out⟩
   case inr =>
    have hne : R ≠ [] := List.length_pos_iff.1 hp
    obtain ⟨g, off, rfl, hg, hcell⟩ := h hp
    have c0 := hcell 0 hp
    rw [Nat.add_zero] at c0
    have cl := hcell (R.length - 1) (by omega)
    have HAS : Hid (dAns R d = { d with ok := true, v := stV R d.e, lo := 0, hi := 0 }) := by
     show _ = _
     unfold dAns
     rw [if_neg ht, zHr hk he]
    have hp' : (0 : Int) < (R.length : Int) := by omega
    rcases he with he | he
    case inl =>
     have hst : stV R d.e = R.getD 0 0 := by unfold stV; rw [if_neg hne, if_pos he]
     have p2 : (d.e == 1) = false := beq_false_of_ne (by omega)
     rw [hst] at HAS
     clear hst h ht hk he hcell cl HU hne
     generalize R.getD 0 0 = y at c0 HAS
     have HB := zIW (zAA (zAA (Below.refl w.heap.size w) (Dd.obj { d with ok := true, v := y, lo := 0, hi := 0 } 77)) (Dd.obj { d with ok := true, v := y, lo := 0, hi := 0 } 77))
     rw [HAS.out]
     generalize R.length = ls at *
     go_enter Tryz.func56, Tryz.ntmps56
     go_wp2_with fail
     exact bodyPost_ret (v := Dd.val { d with ok := true, v := y, lo := 0, hi := 0 }) (by simp [results, Tryz.results56, go_sem]) rfl ⟨rfl, HB.out⟩
    case inr =>
     have hst : stV R d.e = R.getD (R.length - 1) 0 := by unfold stV; rw [if_neg hne, if_neg (by omega)]
     have p2 : (d.e == 1) = true := beq_iff_eq.2 he
     rw [hst] at HAS
     clear hst h ht hk he hcell HU hne
     generalize R.getD 0 0 = x at c0
     generalize R.getD (R.length - 1) 0 = y at cl HAS
     have HB := zIW (zAA (zAA (Below.refl w.heap.size w) (Dd.obj { d with ok := true, v := y, lo := 0, hi := 0 } 77)) (Dd.obj { d with ok := true, v := y, lo := 0, hi := 0 } 77))
     rw [HAS.out]
     generalize R.length = ls at *
     go_enter Tryz.func56, Tryz.ntmps56
     go_wp2_with fail
     exact bodyPost_ret (v := Dd.val { d with ok := true, v := y, lo := 0, hi := 0 }) (by simp [results, Tryz.results56, go_sem]) rfl ⟨rfl, HB.out⟩
def IsB (w : World) (a : Option Addr) (S : List Bool) : Prop :=
 0 < S.length → ∃ g off, a = some ⟨g, off, none⟩ ∧ g < w.heap.size ∧ ∀ i, i < S.length → w.cell? ⟨g, off + i, none⟩ = some (.bool (S.getD i false))
theorem IsB.later {w w' : World} {a : Option Addr} {S : List Bool} (h : IsB w a S) (e : Below w.heap.size w w') : IsB w' a S := fun hp => by
 obtain ⟨g, off, h1, h2, h3⟩ := h hp
 exact ⟨g, off, h1, Nat.lt_of_lt_of_le h2 e.size, fun i hi => (e.cell (p := ⟨g, off + i, none⟩) h2).trans (h3 i hi)⟩
theorem IsB.toSrc {w : World} {a : Option Addr} {S : List Bool} (h : IsB w a S) : Src w 1 a S.length (S.map Value.bool) := by
 refine ⟨fun h0 => ?_, by rw [List.length_map, Nat.mul_one], fun ad had j u hj => ?_, fun u hu => by obtain ⟨x, _, rfl⟩ := List.mem_map.1 hu; rfl⟩
 ·rcases Nat.eq_zero_or_pos S.length with h1 | h1
  ·exact h1
  ·obtain ⟨g, off, h2, _⟩ := h h1
   rw [h0] at h2
   cases h2
 ·have hj2 := (List.getElem?_eq_some_iff.1 hj).1
  rw [List.length_map] at hj2
  obtain ⟨g, off, h2, _, h3⟩ := h (by omega)
  rw [had] at h2
  cases h2
  rw [List.getElem?_map] at hj
  obtain ⟨x, hx, rfl⟩ := Option.map_eq_some_iff.1 hj
  rw [zAt, h3 j hj2, List.getD_eq_getElem?_getD, hx]
  rfl
theorem IsB.own {w : World} {base n cap : Nat} {A : Option Addr} {S : List Bool} (h : w.ownsRow base 4 1 (.slice A n cap) n (S.map Value.bool)) : IsB w A S ∧ n = S.length ∧ n ≤ cap := by
 have hl := h.1
 rw [List.length_map, Nat.mul_one] at hl
 refine ⟨fun hp => ?_, hl.symm, ?_⟩
 ·obtain ⟨g, cp, hv, _, hg⟩ := zAl h (by omega)
  cases hv
  exact ⟨g, 0, rfl, hg, fun i hi => by rw [Nat.zero_add]; exact zC1 h (by omega)⟩
 ·rcases Nat.eq_zero_or_pos n with h0 | h0
  ·omega
  ·obtain ⟨g, cp, hv, hc, _⟩ := zAl h h0
   cases hv
   exact hc
theorem zF5 {w5 w6 : World} {v6 : Value} {S : List Bool} {k i1 : Nat} (h0 : (w5.alloc (.cells #[] 4)).ownsRow w5.heap.size 4 1 (.slice (some ⟨w5.heap.size, 0, none⟩) 0 0) 0 []) (hG : Grew (w5.alloc (.cells #[] 4)) w6 w5.heap.size 4 1 (.slice (some ⟨w5.heap.size, 0, none⟩) 0 0) v6 (0 + k) ([] ++ S.map Value.bool)) (hk : i1 < k) :
  ∃ g6 k6, v6 = .slice (some ⟨g6, 0, none⟩) k k6 ∧ w6.cell? ⟨g6, i1, none⟩ = some (.bool (S.getD i1 false)) ∧ w6.frozen? ⟨g6, i1, none⟩ = false ∧ Hid (Below w5.heap.size w5 (w6.setCell ⟨g6, i1, none⟩ (.bool true))) ∧ Hid (IsB (w6.setCell ⟨g6, i1, none⟩ (.bool true)) (some ⟨g6, 0, none⟩) (S.set i1 true) ∧ k = (S.set i1 true).length ∧ k ≤ k6) := by
 have hown : w6.ownsRow w5.heap.size 4 1 v6 k (S.map Value.bool) := by have := hG.own; rwa [Nat.zero_add, List.nil_append] at this
 have hbl := zAA (Below.refl w5.heap.size w5) (.cells #[] 4)
 have hb6 : Below w5.heap.size w5 w6 := zAS hbl (Keep.of_grown (T := fun q => w5.heap.size ≤ q) hG.grown (fun q hq => (h0.lt q hq).1)) hbl.size (fun i hi => hi)
 obtain ⟨g6, k6, rfl, hk6, hg6⟩ := zAl hown (by omega)
 have hown7 := (hown.stored i1 (.bool true)).1
 rw [← List.map_set] at hown7
 exact ⟨g6, k6, rfl, zC1 hown hk, hown.frozenAt i1, zAF hb6 (p := ⟨g6, i1, none⟩) (hown.lt g6 rfl).1 (.bool true), IsB.own hown7⟩
def SomeC (l : List Dd) (W : World) (a0 : Option Addr) (n cap0 m : Nat) : Prop :=
 ∀ (w : World) (ab : Option Addr) (capb : Nat) (S : List Bool) (a : Option Addr) (cap : Nat) (R : List Int) (bb : Bool), Below W.heap.size W w → S.countP id + m = n → S.length = n → n ≤ capb → R.length ≤ S.countP id → R.length ≤ cap → IsB w ab S → IsU w a R → (bb = true ↔ ∃ s, Lin l (inS S) R s) →
  Calls Tryz.prog 22 #[.slice a0 n cap0, .slice ab n capb, .slice a R.length cap] w fun r w' => r = .returned (.bool bb) ∧ Below w.heap.size w w'
theorem zEq (l : List Dd) (W : World) (a0 : Option Addr) (n cap0 tb off : Nat) (hl : IsDds W a0 n cap0 tb off l) (hn : n ≤ 1000) (he : ∀ d ∈ l, d.e = 0 ∨ d.e = 1) (m : Nat) : SomeC l W a0 n cap0 m := by
 induction m using Nat.strongRecOn with
 | _ m IH =>
 intro w ab capb S a cap R bb hWw hom hSl hcb hRO hcap hB hU hbb
 have HL := zIW hl
 have HI := zIW IH
 have HE := zIW he
 have HWW := zIW hWw
 have HB := zIW hB
 have HU := zIW hU
 have HBB := zIW hbb
 have HSL := zIW hSl
 have hcp := hl.2.1
 have HHB : Hid (∀ w', Below w.heap.size w w' → ∀ i, i < n → ∃ g o, ab = some ⟨g, o, none⟩ ∧ g < w'.heap.size ∧ w'.cell? ⟨g, o + i, none⟩ = some (.bool (S.getD i false))) := fun w' hb' i hi => by
  obtain ⟨g, o, h1, h2, h3⟩ := (HB.out.later hb') (by rw [HSL.out]; omega)
  exact ⟨g, o, h1, h2, h3 i (by rw [HSL.out]; exact hi)⟩
 clear hl IH he hWw hB hU hbb hSl
 go_enter Tryz.func22, Tryz.ntmps22
 go_wp2_with fail
 have HB0 := zIW (Below.refl w.heap.size w)
 go_loopw [7, 20] (fun ov iw wr => ∃ (i : Nat) (y : Bool), i ≤ n ∧ ov = .bool y ∧ iw = .int .i64 i ∧ Hid (Below w.heap.size w wr) ∧ Hid (y = true ↔ ∀ (j : Nat) (d : Dd), j < i → l[j]? = some d → 0 ≤ d.till → inS S j)) (fun _ iw _ => n - (RowKit.intOf iw).toNat)
 case atStart => exact ⟨0, true, Nat.zero_le _, rfl, rfl, HB0, ⟨fun _ j d hj => absurd hj (Nat.not_lt_zero _), fun _ => rfl⟩⟩
 case round =>
  clear HB0
  obtain ⟨i, y, hi, rfl, rfl, HBw, HY⟩ := hrel
  rcases Nat.lt_or_ge i n with hil | hil
  ·have hil' : (i : Int) < (n : Int) := by omega
   obtain ⟨d, hd⟩ : ∃ d, l[i]? = some d := ⟨_, List.getElem?_eq_getElem (by rw [HL.out.1]; exact hil)⟩
   obtain ⟨rfl, htb⟩ := HL.out.2.2.1 (by omega)
   obtain ⟨d0, d1, d2, d3, d4, d5, d6, d7, d8, d9, d10⟩ := ((HL.out.later (HWW.out.trans (HBw.out.mono HWW.out.size)) (fun _ => htb)).2.2.2 i d hd).1
   obtain ⟨g, o, rfl, hg, cb⟩ := HHB.out _ HBw.out i hil
   have HBN := zIW (zAA HBw.out (d.obj 77))
   have HD := zIW hd
   have HSTEP : Hid (∀ z : Bool, (z = true ↔ (y = true ∧ (inS S i ∨ d.till < 0))) → (z = true ↔ ∀ (j : Nat) (e : Dd), j < i + 1 → l[j]? = some e → 0 ≤ e.till → inS S j)) := fun z hz => by
    rw [hz, HY.out]
    constructor
    ·rintro ⟨h1, h2⟩ j e hj he ht
     rcases (by omega : j < i ∨ j = i) with hj | rfl
     ·exact h1 j e hj he ht
     ·rw [HD.out] at he
      cases he
      exact h2.resolve_right (by omega)
    ·intro h
     refine ⟨fun j e hj => h j e (by omega), ?_⟩
     rcases (by omega : d.till < 0 ∨ 0 ≤ d.till) with ht | ht
     ·exact .inr ht
     ·exact .inl (h i d (by omega) HD.out ht)
   clear hd
   cases y
   case false =>
    go_wp2_with fail
    go_roundw
    case rel => exact ⟨i + 1, false, by omega, rfl, by go_num, HBN, HSTEP.out false ⟨fun h => Bool.noConfusion h, fun h => Bool.noConfusion h.1⟩⟩
    case measure => first | omega | (simp [RowKit.intOf]; done) | (simp [RowKit.intOf]; omega)
   case true =>
    cases hs : S.getD i false
    case true =>
     rw [hs] at cb
     have HS := zIW hs
     clear hs
     go_wp2_with fail
     go_roundw
     case rel => exact ⟨i + 1, true, by omega, rfl, by go_num, HBN, HSTEP.out true ⟨fun _ => ⟨rfl, .inl HS.out⟩, fun _ => rfl⟩⟩
     case measure => first | omega | (simp [RowKit.intOf]; done) | (simp [RowKit.intOf]; omega)
    case false =>
     rw [hs] at cb
     have HS := zIW hs
     clear hs
     by_cases ht : d.till < 0
     case pos =>
      have e1 : decide (d.till < 0) = true := decide_eq_true ht
      have HT := zIW ht
      clear ht
      go_wp2_with fail
      go_roundw
      case rel => exact ⟨i + 1, true, by omega, rfl, by go_num, HBN, HSTEP.out true ⟨fun _ => ⟨rfl, .inr HT.out⟩, fun _ => rfl⟩⟩
      case measure => first | omega | (simp [RowKit.intOf]; done) | (simp [RowKit.intOf]; omega)
     case neg =>
      have e1 : decide (d.till < 0) = false := decide_eq_false ht
      have HT := zIW ht
      clear ht
      go_wp2_with fail
      go_roundw
      case rel => exact ⟨i + 1, false, by omega, rfl, by go_num, HBN, HSTEP.out false ⟨fun h => Bool.noConfusion h, fun h => by
       rcases h.2 with h2 | h2
       ·unfold inS at h2
        rw [HS.out] at h2
        cases h2
       ·exact absurd h2 HT.out⟩⟩
      case measure => first | omega | (simp [RowKit.intOf]; done) | (simp [RowKit.intOf]; omega)
  ·obtain rfl : i = n := by omega
   have hnl : ¬ (i : Int) < (i : Int) := by omega
   have HALL : Hid (y = true ↔ ∀ (j : Nat) (d : Dd), l[j]? = some d → 0 ≤ d.till → inS S j) := ⟨fun h j d hd => HY.out.1 h j d (by have := (List.getElem?_eq_some_iff.1 hd).1; have := HL.out.1; omega) hd, fun h => HY.out.2 (fun j d _ hd => h j d hd)⟩
   clear HY
   cases y
   case true =>
    obtain rfl : bb = true := HBB.out.2 ⟨[], .nil (HALL.out.1 (by first | exact rfl | trivial))⟩
    go_wp2_with fail
    go_ret
    exact ⟨rfl, HBw.out⟩
   case false =>
    have hnw : ¬ ∀ (j : Nat) (d : Dd), l[j]? = some d → 0 ≤ d.till → inS S j := fun h => by
     have := HALL.out.2 h
     first | exact Bool.noConfusion this | exact this
    have HW := zIW hnw
    clear hnw HALL
    go_wp2_with fail
    have HB2 := zIW HBw.out
    go_loopw [41] (fun iw wx => ∃ i1 : Nat, i1 ≤ i ∧ iw = .int .i64 i1 ∧ Hid (Below w.heap.size w wx) ∧ Hid (∀ j, j < i1 → NoB l S R j)) (fun iw _ => i - (RowKit.intOf iw).toNat)
    case atStart => exact ⟨0, Nat.zero_le _, rfl, HB2, fun j hj => absurd hj (Nat.not_lt_zero _)⟩
    case round =>
     clear HB2
     obtain ⟨i1, hi1, rfl, HBx, HP⟩ := hrel
     rcases Nat.lt_or_ge i1 i with hil | hil
     ·have hil' : (i1 : Int) < (i : Int) := by omega
      obtain ⟨d, hd⟩ : ∃ d, l[i1]? = some d := ⟨_, List.getElem?_eq_getElem (by rw [HL.out.1]; exact hil)⟩
      obtain ⟨rfl, htb⟩ := HL.out.2.2.1 (by omega)
      obtain ⟨d0, d1, d2, d3, d4, d5, d6, d7, d8, d9, d10⟩ := ((HL.out.later (HWW.out.trans (HBx.out.mono HWW.out.size)) (fun _ => htb)).2.2.2 i1 d hd).1
      obtain ⟨g, o, rfl, hg, cb⟩ := HHB.out _ HBx.out i1 hil
      have HBN := zIW (zAA HBx.out (d.obj 77))
      have HDB := zIW (AtBd.made wr d 77)
      have HD := zIW hd
      have hde := HE.out d (List.mem_of_getElem? hd)
      have HDE := zIW hde
      obtain ⟨y0, hy0⟩ : ∃ y0, S.getD i1 false = y0 := ⟨_, rfl⟩
      have HY0 := zIW hy0
      rw [hy0] at cb
      clear hd hde hy0
      go_wp2_with fail
      have HBI0 := zIW HBN.out
      have HDI0 := zIW HDB.out
      have HFI0 : Hid ((!y0) = true ↔ (¬ inS S i1 ∧ ∀ (k' : Nat) (o' : Dd), k' < 0 → l[k']? = some o' → inS S k' ∨ ¬ dBef o' d)) := by
       constructor
       ·intro h
        refine ⟨fun hh => ?_, fun k' o' hk => absurd hk (Nat.not_lt_zero _)⟩
        unfold inS at hh
        rw [HY0.out] at hh
        rw [hh] at h
        cases h
       ·rintro ⟨h, _⟩
        unfold inS at h
        rw [HY0.out] at h
        cases y0
        ·rfl
        ·exact absurd rfl h
      clear d0 d1 d2 d3 d4 d5 d6 d7 d8 d9 d10 cb HDB HBN hg
      generalize wr.heap.size = B at HDI0 ⊢
      go_loopw [12, 53] (fun fv kw wy => ∃ (k : Nat) (y : Bool), k ≤ i ∧ fv = .bool y ∧ kw = .int .i64 k ∧ Hid (Below w.heap.size w wy) ∧ Hid (AtBd wy B d) ∧ Hid (y = true ↔ (¬ inS S i1 ∧ ∀ (k' : Nat) (o' : Dd), k' < k → l[k']? = some o' → inS S k' ∨ ¬ dBef o' d))) (fun _ kw _ => i - (RowKit.intOf kw).toNat)
      case atStart => exact ⟨0, !y0, Nat.zero_le _, rfl, rfl, HBI0, HDI0, HFI0⟩
      case round =>
       clear HBI0 HDI0 HFI0
       obtain ⟨k, y, hk, rfl, rfl, HBI, HDI, HFI⟩ := hrel
       rcases Nat.lt_or_ge k i with hkl | hkl
       ·have hkl' : (k : Int) < (i : Int) := by omega
        obtain ⟨od, hod⟩ : ∃ d, l[k]? = some d := ⟨_, List.getElem?_eq_getElem (by rw [HL.out.1]; exact hkl)⟩
        obtain ⟨f0, f1, f2, f3, f4, f5, f6, f7, f8, f9, f10⟩ := ((HL.out.later (HWW.out.trans (HBI.out.mono HWW.out.size)) (fun _ => htb)).2.2.2 k od hod).1
        obtain ⟨g2, o2, hgo, hg2, cb⟩ := HHB.out _ HBI.out k hkl
        cases hgo
        have hbn := zAA (Below.refl wr.heap.size wr) (od.obj 77)
        have HBN := zIW (zAD HBI.out hbn)
        have HDN := zIW (HDI.out.later hbn)
        have d5 := HDI.out.c5
        have hBl := HDI.out.lt
        have HOD := zIW hod
        have HSTEP : Hid (∀ z : Bool, (z = true ↔ (y = true ∧ (inS S k ∨ ¬ dBef od d))) → (z = true ↔ (¬ inS S i1 ∧ ∀ (k' : Nat) (o' : Dd), k' < k + 1 → l[k']? = some o' → inS S k' ∨ ¬ dBef o' d))) := fun z hz => by
         rw [hz, HFI.out]
         constructor
         ·rintro ⟨⟨h1, h2⟩, h3⟩
          refine ⟨h1, fun k' o' hk' ho' => ?_⟩
          rcases (by omega : k' < k ∨ k' = k) with hk' | rfl
          ·exact h2 k' o' hk' ho'
          ·rw [HOD.out] at ho'
           cases ho'
           exact h3
         ·rintro ⟨h1, h2⟩
          exact ⟨⟨h1, fun k' o' hk' => h2 k' o' (by omega)⟩, h2 k od (by omega) HOD.out⟩
        clear hod hbn
        cases y
        case false =>
         go_wp2_with fail
         go_roundw
         case rel => exact ⟨k + 1, false, by omega, rfl, by go_num, HBN, HDN, HSTEP.out false ⟨fun h => Bool.noConfusion h, fun h => Bool.noConfusion h.1⟩⟩
         case measure => first | omega | (simp [RowKit.intOf]; done) | (simp [RowKit.intOf]; omega)
        case true =>
         cases hs : S.getD k false
         case true =>
          rw [hs] at cb
          have HS := zIW hs
          clear hs
          go_wp2_with fail
          go_roundw
          case rel => exact ⟨k + 1, true, by omega, rfl, by go_num, HBN, HDN, HSTEP.out true ⟨fun _ => ⟨rfl, .inl HS.out⟩, fun _ => rfl⟩⟩
          case measure => first | omega | (simp [RowKit.intOf]; done) | (simp [RowKit.intOf]; omega)
         case false =>
          rw [hs] at cb
          have HS := zIW hs
          clear hs
          by_cases ht : od.till < 0
          case pos =>
           have e1 : decide (od.till < 0) = true := decide_eq_true ht
           have HT := zIW ht
           clear ht
           go_wp2_with fail
           go_roundw
           case rel => exact ⟨k + 1, true, by omega, rfl, by go_num, HBN, HDN, HSTEP.out true ⟨fun _ => ⟨rfl, .inr (fun h => by have := h.1; have := HT.out; omega)⟩, fun _ => rfl⟩⟩
           case measure => first | omega | (simp [RowKit.intOf]; done) | (simp [RowKit.intOf]; omega)
          case neg =>
           have e1 : decide (od.till < 0) = false := decide_eq_false ht
           have HT := zIW ht
           clear ht
           by_cases hb : d.fr ≤ od.till
           case pos =>
            have e2 : decide (d.fr ≤ od.till) = true := decide_eq_true hb
            have HT2 := zIW hb
            clear hb
            go_wp2_with fail
            go_roundw
            case rel => exact ⟨k + 1, true, by omega, rfl, by go_num, HBN, HDN, HSTEP.out true ⟨fun _ => ⟨rfl, .inr (fun h => by have := h.2; have := HT2.out; omega)⟩, fun _ => rfl⟩⟩
            case measure => first | omega | (simp [RowKit.intOf]; done) | (simp [RowKit.intOf]; omega)
           case neg =>
            have e2 : decide (d.fr ≤ od.till) = false := decide_eq_false hb
            have HT2 := zIW hb
            clear hb
            go_wp2_with fail
            go_roundw
            case rel => exact ⟨k + 1, false, by omega, rfl, by go_num, HBN, HDN, HSTEP.out false ⟨fun h => Bool.noConfusion h, fun h => by
             rcases h.2 with h2 | h2
             ·unfold inS at h2
              rw [HS.out] at h2
              cases h2
             ·exact absurd ⟨by have := HT.out; omega, by have := HT2.out; omega⟩ h2⟩⟩
            case measure => first | omega | (simp [RowKit.intOf]; done) | (simp [RowKit.intOf]; omega)
       ·obtain rfl : k = i := by omega
        have hnk : ¬ (k : Int) < (k : Int) := by omega
        have HFR : Hid (y = true ↔ LFree l (inS S) i1 d) := ⟨fun h => ⟨(HFI.out.1 h).1, fun k' o' ho' => (HFI.out.1 h).2 k' o' (by have := (List.getElem?_eq_some_iff.1 ho').1; have := HL.out.1; omega) ho'⟩, fun h => HFI.out.2 ⟨h.1, fun k' o' _ ho' => h.2 k' o' ho'⟩⟩
        clear HFI
        cases y
        case false =>
         have HNF : Hid (¬ LFree l (inS S) i1 d) := fun h => by
          have := HFR.out.2 h
          first | exact Bool.noConfusion this | exact this
         clear HFR
         go_wp2_with fail
         go_roundw
         case rel =>
          refine ⟨i1 + 1, by omega, by go_num, HBI, fun j hj => ?_⟩
          rcases (by omega : j < i1 ∨ j = i1) with hj | rfl
          ·exact HP.out j hj
          ·intro e r he hf
           rw [HD.out] at he
           cases he
           exact absurd hf HNF.out
         case measure => first | omega | (simp [RowKit.intOf]; done) | (simp [RowKit.intOf]; omega)
        case true =>
         have HF : Hid (LFree l (inS S) i1 d) := HFR.out.1 (by first | exact rfl | trivial)
         clear HFR
         obtain ⟨d0, d1, d2, d3, d4, d5, d6, d7, d8, d9, d10⟩ := HDI.out
         have HUI := zIW (HU.out.later HBI.out)
         go_wp2_with fail
         refine (zDC _ a cap R d HUI.out hcap (by omega) HDE.out).mono ?_
         rintro r w4 ⟨rfl, hb4⟩
         have HB4 := zIW (zAD HBI.out hb4)
         have HU4 := zIW (HUI.out.later hb4)
         clear hb4 d0 d1 d2 d3 d4 d5 d6 d7 d8 d9 d10
         obtain ⟨dA, hdA⟩ : ∃ dA, dAns R d = dA := ⟨_, rfl⟩
         have HDA := zIW hdA
         rw [hdA]
         clear hdA
         go_wp2_with fail
         refine (zIS _ a cap R dA HU4.out hcap (by omega)).mono ?_
         rintro r w5 ⟨hb5, a', n', c', ok, rfl, h1, h2⟩
         have HB5 := zIW (zAD HB4.out hb5)
         cases hdo : dDo R dA
         case none =>
          obtain rfl := h2 hdo
          have HO := zIW hdo
          clear h1 h2 hb5 hdo
          go_wp2_with fail
          go_roundw
          case rel =>
           refine ⟨i1 + 1, by omega, by go_num, HB5, fun j hj => ?_⟩
           rcases (by omega : j < i1 ∨ j = i1) with hj | rfl
           ·exact HP.out j hj
           ·intro e r he hf hr
            rw [HD.out] at he
            cases he
            rw [HDA.out, HO.out] at hr
            cases hr
          case measure => first | omega | (simp [RowKit.intOf]; done) | (simp [RowKit.intOf]; omega)
         case some R' =>
          obtain ⟨rfl, rfl, hnc, hU'⟩ := h1 R' hdo
          have HO := zIW hdo
          have hRl := zH3 hdo
          have HU5 := zIW hU'
          have hbl := zAA (Below.refl w5.heap.size w5) (.cells #[] 4)
          have HBL := zIW hbl
          have HSRC := zIW ((HB.out.later (HB5.out)).later hbl).toSrc
          rw [HSL.out] at HSRC
          have HR0 : Hid ((w5.alloc (.cells #[] 4)).ownsRow w5.heap.size 4 1 (.slice (some ⟨w5.heap.size, 0, none⟩) 0 0) 0 []) := World.ownsRow_made (base := w5.heap.size) (e := 4) (size := 1) w5 #[] 0 (Nat.le_refl _) (by unfold maxLen; omega) (by simp)
          clear h1 h2 hb5 hdo hU' hbl
          go_wp2_with (at_builtin; refine zAM rfl _ _ 60 rfl w5.heap.size 4 _ 1 1 zBB _ 0 [] rfl HR0.out _ k capb (S.map Value.bool) rfl HSRC.out (by unfold maxLen; omega) (by omega) HBL.out.size ?_; intro v6 w6 hG; obtain ⟨g6, k6, rfl, c1, z1, HB7, HIB⟩ := zF5 HR0.out hG hil; clear hG)
          have hin : i1 < S.length := by rw [HSL.out]; exact hil
          have hlt := cnt_lt hin HF.out.1
          have hcs := zIV hin HF.out.1
          have HCS := zIW hcs
          have HLT := zIW hlt
          clear hlt hcs HR0 HBL HSRC
          obtain ⟨b7, hb7⟩ : ∃ b7 : Bool, b7 = true ↔ ∃ s, Lin l (inS (S.set i1 true)) R' s := by
           by_cases hh : ∃ s, Lin l (inS (S.set i1 true)) R' s
           ·exact ⟨true, fun _ => hh, fun _ => rfl⟩
           ·exact ⟨false, fun h => Bool.noConfusion h, fun h => absurd h hh⟩
          have HB7' := zIW hb7
          clear hb7
          refine (HI.out (m - 1) (by have := HLT.out; have := HSL.out; omega) _ _ k6 (S.set i1 true) a' c' R' b7 ((HWW.out.trans (HB5.out.mono HWW.out.size)).trans (HB7.out.mono (Nat.le_trans HWW.out.size HB5.out.size))) (by have := HLT.out; have := HSL.out; have := HCS.out; omega) (by rw [List.length_set]; exact HSL.out) HIB.out.2.2 (by have := HCS.out; omega) hnc HIB.out.1 (HU5.out.later HB7.out) HB7'.out).mono ?_
          rintro r w8 ⟨rfl, hb8⟩
          have HB8 := zIW (zAD HB5.out (zAD HB7.out hb8))
          clear hb8
          cases b7
          case true =>
           obtain rfl : bb = true := HBB.out.2 (zFh.2 (.inr ⟨i1, d, R', HD.out, HF.out, by rw [HDA.out]; exact HO.out, by
            obtain ⟨s, hs⟩ := HB7'.out.1 (by first | exact rfl | trivial)
            exact ⟨s, hs.same (fun q => zF9 (by rw [HSL.out]; exact hil) q)⟩⟩))
           go_wp2_with fail
           go_ret
           exact ⟨rfl, HB8.out⟩
          case false =>
           have HNO : Hid (¬ ∃ s, Lin l (inS (S.set i1 true)) R' s) := fun h => by
            have := HB7'.out.2 h
            first | exact Bool.noConfusion this | exact this
           clear HB7'
           go_wp2_with fail
           go_roundw
           case rel =>
            refine ⟨i1 + 1, by omega, by go_num, HB8, fun j hj => ?_⟩
            rcases (by omega : j < i1 ∨ j = i1) with hj | rfl
            ·exact HP.out j hj
            ·intro e r he hf hr hh
             rw [HD.out] at he
             cases he
             rw [HDA.out, HO.out] at hr
             cases hr
             obtain ⟨s, hs⟩ := hh
             exact HNO.out ⟨s, hs.same (fun q => (zF9 (by rw [HSL.out]; exact hil) q).symm)⟩
           case measure => first | omega | (simp [RowKit.intOf]; done) | (simp [RowKit.intOf]; omega)
     ·obtain rfl : i1 = i := by omega
      have hnx : ¬ (i1 : Int) < (i1 : Int) := by omega
      obtain rfl : bb = false := by
       cases bb with
       | false => rfl
       | true =>
        exfalso
        rcases zFh.1 (HBB.out.1 rfl) with h | ⟨j, e, r, h1, h2, h3, h4⟩
        ·exact HW.out h
        ·exact HP.out j (by have := (List.getElem?_eq_some_iff.1 h1).1; have := HL.out.1; omega) e r h1 h2 h3 h4
      go_wp2_with fail
      go_ret
      exact ⟨rfl, HBx.out⟩
end
end Go.Proofs.YtebgjfhaolgcjaaGreat
