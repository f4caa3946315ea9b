/- Contracts and plain lemmas that these laws need. No condition. -/

import Derived.Test.YtpfjommkjkbonaaGreatQF1
import Derived.Test.YtpfjommkjkbonaaGreatQF9
import Derived.Test.YtpfjommkjkbonaaGreatQF10
namespace Go.Proofs.YtpfjommkjkbonaaGreat
set_option linter.unusedVariables false
set_option maxHeartbeats 8000000
set_option maxRecDepth 100000
section
open Go.RowKit
structure PutAt (Y : Nat → Yd) (B : YB) (N i : Nat) (d : Dd) (p j : Nat) : Prop where
 till : ((Y p).moves : Int) = d.till
 lt : j < N
 own0 : d.who * B.s ≤ j
 own1 : j < d.who * B.s + B.s
 free : (Y p).C.getD j 0 % 4 ≠ 1
 word : (Y (p + 1)).C.getD j 0 = 1 + 4 * d.e + 8 * ((Y p).C.getD j 0 / 8 % 8192 + 1) + 65536 * d.lo + 1099511627776 * d.hi
 gen : (Y p).C.getD j 0 / 8 % 8192 ≤ 8190
 e0 : 0 ≤ d.e
 e1 : d.e ≤ 1
 st : 0 ≤ d.lo ∧ d.lo ≤ d.hi ∧ d.hi < 16777215
 value : (Y (p + 1)).C.getD (N + j) 0 = d.x
 rest : ∀ q, q ≠ j → (Y (p + 1)).C.getD q 0 = (Y p).C.getD q 0
 run : ∃ (w : Nat) (k : Pu), d.who = w ∧ (Y p).ts[w]? = some (some (.pu k, i)) ∧ (Y (p + 1)).ts[w]? = some none
structure VTr (Y : Nat → Yd) (B : YB) (N b : Nat) : Prop where
 run : ∀ (w : Nat) (k : Pu) (i : Nat) (d : Dd), (Y b).ts[w]? = some (some (.pu k, i)) → (Y b).ds[i]? = some d → k.value = d.x ∧ k.e = d.e ∧ (k.next = 3 → (Y b).C.getD (N + k.cl.slot.toNat) 0 = d.x)
 done : ∀ (i : Nat) (d : Dd), (Y b).ds[i]? = some d → d.kd = 0 → d.ok = true → ∃ p j, p < b ∧ PutAt Y B N i d p j
 live : ∀ j, j < N → (Y b).C.getD j 0 % 4 = 1 → ∃ i d p, (Y b).ds[i]? = some d ∧ d.kd = 0 ∧ d.ok = true ∧ p < b ∧ PutAt Y B N i d p j ∧ (Y b).C.getD j 0 = (Y (p + 1)).C.getD j 0 ∧ (Y b).C.getD (N + j) 0 = d.x
section
theorem zIY {nb : Nat} {k : Tk} {C : List Int} {now : Int} {i : Nat} (h : i < nb) : (stp nb k C now).2.1.getD i 0 = C.getD i 0 := by
 have key : ∀ (q : Nat) (x : Int), (C.set (nb + q) x).getD i 0 = C.getD i 0 := fun q x => zAH x (by omega)
 have key0 : ∀ (x : Int), (C.set nb x).getD i 0 = C.getD i 0 := key 0
 unfold stp
 repeat' split
 all_goals first | rfl | exact key _ _ | exact key0 _
theorem zE1 {k : Pu} {N nb : Nat} {C : List Int} {now : Int} (hp : k.ph = 0) (hn : k.next = 0 ∨ k.next = 1 ∨ k.next = 2 ∨ k.next = 3) (hl : 2 * N ≤ C.length) (hs : k.cl.slot.toNat < N) {q : Nat} (hq : q < nb) :
  (k.cells N nb C now).getD q 0 = C.getD q 0 ∨ (k.next = 2 ∧ q = N + k.cl.slot.toNat ∧ (k.cells N nb C now).getD q 0 = k.value) ∨ (k.next = 3 ∧ q = k.cl.slot.toNat) := by
 have hnp : ¬ k.ph ≠ 0 := by omega
 unfold Pu.cells
 rw [if_neg hnp]
 rcases hn with h | h | h | h
 ·rw [if_pos h]
  exact .inl rfl
 ·rw [if_neg (by omega), if_pos h]
  exact .inl (zIY hq)
 ·rw [if_neg (by omega), if_neg (by omega), if_pos h]
  by_cases e : N + k.cl.slot.toNat = q
  ·subst e
   exact .inr (.inl ⟨h, rfl, zAR _ (by omega)⟩)
  ·exact .inl (zAH _ e)
 ·rw [if_neg (by omega), if_neg (by omega), if_neg (by omega)]
  by_cases e : k.cl.slot.toNat = q
  ·exact .inr (.inr ⟨h, e.symm⟩)
  ·exact .inl (zAH _ e)
theorem zCo (k : Pu) (r : Int) : (k.after r).next = k.next ∨ (k.after r).next = k.next + 1 := by
 unfold Pu.after
 split
 ·exact .inr rfl
 ·split <;> exact .inl rfl
end
section
variable {B : YB} {N n m b w : Nat} {Y : Nat → Yd}
theorem zFs {Y : Yd} {k : Ge} {i : Nat} (hA : AOk B N Y) (ho : YOk (plOf B N) B.T n Y) (hl : (Y.C.length : Int) = 2 * N + 2 * B.t) (hw : Y.ts[w]? = some (some (.ge k, i))) {q : Nat} (hq : q < 2 * N) :
  (k.cells N (2 * N + w) Y.C).getD q 0 = Y.C.getD q 0 ∨ (q < N ∧ (k.cells N (2 * N + w) Y.C).getD q 0 = tkW (Y.C.getD q 0) ∧ (k.cells N (2 * N + w) Y.C).getD q 0 % 4 = 2) := by
 have hF := ho.getF hw
 unfold Ge.cells
 split
 ·exact .inl rfl
 ·cases hta : k.ta with
  | none => exact .inl rfl
  | some a =>
   obtain ⟨_, _, b3, b4, b5⟩ := hF.ta a hta
   show (a.cells a.slot.toNat (2 * N + w) Y.C).getD q 0 = _ ∨ (q < N ∧ (a.cells a.slot.toNat (2 * N + w) Y.C).getD q 0 = _ ∧ (a.cells a.slot.toNat (2 * N + w) Y.C).getD q 0 % 4 = 2)
   have hlen := b5.len
   have ht1 := b5.lay.t1
   unfold Ta.cells
   split
   ·exact .inl rfl
   ·split
    ·exact .inl (zAH _ (by omega))
    ·split
     ·exact .inl rfl
     ·split
      ·exact .inl rfl
      ·split
       ·split
        ·rename_i hx
         by_cases e : a.slot.toNat = q
         ·subst e
          have x0 := b5.x0
          right
          rw [zAR _ (by omega), hx]
          exact ⟨by omega, rfl, (zAm x0).1⟩
         ·exact .inl (zAH _ e)
        ·exact .inl rfl
       ·exact .inl (zAH _ (by omega))
theorem VTr.start (h : YTr B N Y m) : VTr Y B N 0 := by
 have hz : ∀ j, (Y 0).C.getD j 0 = 0 := fun j => by
  rw [h.zero]
  show (List.replicate (2 * N + 2 * B.T) (0 : Int)).getD j 0 = 0
  rw [List.getD_eq_getElem?_getD, List.getElem?_replicate]
  split <;> rfl
 refine ⟨fun w k i d hw hd => ?_, fun i d hd => ?_, fun j _ hj => ?_⟩
 ·rw [h.zero] at hd
  simp at hd
 ·rw [h.zero] at hd
  simp at hd
 ·rw [hz] at hj
  omega
theorem VTr.live_same (hV : VTr Y B N b) (hC : ∀ j, j < N → (Y (b + 1)).C.getD j 0 % 4 = 1 → (Y (b + 1)).C.getD j 0 = (Y b).C.getD j 0 ∧ (Y (b + 1)).C.getD (N + j) 0 = (Y b).C.getD (N + j) 0) (hd : ∀ (i : Nat) (d : Dd), (Y b).ds[i]? = some d → d.ok = true → (Y (b + 1)).ds[i]? = some d) :
  ∀ j, j < N → (Y (b + 1)).C.getD j 0 % 4 = 1 → ∃ i d p, (Y (b + 1)).ds[i]? = some d ∧ d.kd = 0 ∧ d.ok = true ∧ p < b + 1 ∧ PutAt Y B N i d p j ∧ (Y (b + 1)).C.getD j 0 = (Y (p + 1)).C.getD j 0 ∧ (Y (b + 1)).C.getD (N + j) 0 = d.x := by
 intro j hj h1
 obtain ⟨c1, c2⟩ := hC j hj h1
 rw [c1] at h1
 obtain ⟨i, d, p, p1, p2, p3, p4, p5, p6, p7⟩ := hV.live j hj h1
 exact ⟨i, d, p, hd i d p1 p3, p2, p3, by omega, p5, c1.trans p6, c2.trans p7⟩
theorem VTr.next (h : YTr B N Y m) (hV : VTr Y B N b) (hb : b < m) : VTr Y B N (b + 1) := by
 have hA := h.all b (by omega)
 have hhow := h.how b hb
 have hT := h.hT
 have hlen := hA.len
 generalize hZ : Y (b + 1) = Z at hhow
 cases hhow with
 | rest =>
  refine ⟨fun w k i d hw hd => ?_, fun i d hd p q => ?_, hV.live_same (fun j _ _ => by rw [hZ]; exact ⟨rfl, rfl⟩) (fun i d hd _ => by rw [hZ]; exact hd)⟩
  ·rw [hZ] at hw hd ⊢
   exact hV.run w k i d hw hd
  ·rw [hZ] at hd
   obtain ⟨p', j, h1, h2⟩ := hV.done i d hd p q
   exact ⟨p', j, by omega, h2⟩
 | pass n hn =>
  refine ⟨fun w k i d hw hd => ?_, fun i d hd p q => ?_, hV.live_same (fun j _ _ => by rw [hZ]; exact ⟨rfl, rfl⟩) (fun i d hd _ => by rw [hZ]; exact hd)⟩
  ·rw [hZ] at hw hd ⊢
   exact hV.run w k i d hw hd
  ·rw [hZ] at hd
   obtain ⟨p', j, h1, h2⟩ := hV.done i d hd p q
   exact ⟨p', j, by omega, h2⟩
 | call w take kd e x s hw he hk =>
  have hZC : (Y (b + 1)).C = (Y b).C := by rw [hZ]; rfl
  refine ⟨fun v k i d hv hd => ?_, fun i d hd p q => ?_, hV.live_same (fun j _ _ => by rw [hZC]; exact ⟨rfl, rfl⟩) (fun i d hd _ => by
   rw [hZ]
   show ((Y b).ds ++ [_])[i]? = some d
   rw [List.getElem?_append_left (List.getElem?_eq_some_iff.1 hd).1]
   exact hd)⟩
  ·rw [hZC]
   rw [hZ] at hv hd
   rcases yset hv with ⟨rfl, hq, _⟩ | ⟨_, hq⟩
   ·have hq1 : Wk.pu k = wkB B N w take e x s := (Prod.mk.inj (Option.some.inj hq)).1
    have hq2 : i = (Y b).ds.length := (Prod.mk.inj (Option.some.inj hq)).2
    have hk' := zCu hq1
    subst hk' hq2
    rcases ysnoc hd with ⟨_, rfl⟩ | ⟨e1, _⟩
    ·exact ⟨rfl, rfl, fun q => absurd q (by show ¬ (0 : Int) = 3; decide)⟩
    ·omega
   ·obtain ⟨_, _, _, _, d0, k5, _⟩ := hA.ok.task v _ i hq
    rcases ysnoc hd with ⟨e1, _⟩ | ⟨_, e2⟩
    ·have := (List.getElem?_eq_some_iff.1 k5).1
     omega
    ·exact hV.run v k i d hq e2
  ·rw [hZ] at hd
   rcases ysnoc hd with ⟨_, rfl⟩ | ⟨_, e2⟩
   ·cases q
   ·obtain ⟨p', j, h1, h2⟩ := hV.done i d e2 p q
    exact ⟨p', j, by omega, h2⟩
 | step w T i z hw ha =>
  obtain ⟨k1, k2, k3, k4, d0, k5, k6, k7, k8, _⟩ := hA.ok.task w T i hw
  have hkd := hA.cok.kind w T i d0 hw k5
  have hlt : w < (Y b).ts.length := (List.getElem?_eq_some_iff.1 hw).1
  have hZC : (Y (b + 1)).C = T.cells (plOf B N w) (Y b).C (Y b).now := by rw [hZ]; rfl
  have keep : ∀ (i' : Nat) (d : Dd), (Y b).ds[i']? = some d → d.ok = true → (Y (b + 1)).ds[i']? = some d := fun i' d hd hok => by
   rw [hZ]
   show (if (T.step (plOf B N w) (Y b).C (Y b).now z).ph = 0 then (Y b).ds else (Y b).ds.modify i (fun d => d.over (Y b).moves (T.step (plOf B N w) (Y b).C (Y b).now z)))[i']? = some d
   split
   ·exact hd
   ·rw [zB1 (fun e => ?_)]
    ·exact hd
    ·rw [← e, k5] at hd
     cases hd
     rw [k8] at hok
     cases hok
  have other : ∀ (v : Nat) (k : Pu) (i' : Nat), v ≠ w → (Y b).ts[v]? = some (some (.pu k, i')) → (Y (b + 1)).C.getD (N + k.cl.slot.toNat) 0 = (Y b).C.getD (N + k.cl.slot.toNat) 0 := fun v k i' hv hq => by
   have hG := hA.ok.putF h.cf hT hlen hq
   have g1 := hG.lo
   have g2 := hG.hi
   have g3 := hG.n1
   obtain ⟨n0, _⟩ := h.cf.own hT hG.wT
   rw [hZC]
   cases T with
   | ge g =>
    rcases zFs hA.aok hA.ok hlen hw (q := N + k.cl.slot.toNat) (by omega) with hh | ⟨hh, _⟩
    ·exact hh
    ·omega
   | pu p =>
    have hF := hA.ok.putF h.cf hT hlen hw
    have b1 := hF.lo
    have b2 := hF.hi
    have b3 := hF.n1
    obtain ⟨m0, _⟩ := h.cf.own hT hF.wT
    rcases zE1 (nb := 2 * N + B.T) (C := (Y b).C) (now := (Y b).now) hF.ph (by rcases hF.ok.at' hF.ph with h | h | h | h <;> omega) (by omega) (by omega : p.cl.slot.toNat < N) (q := N + k.cl.slot.toNat) (by omega) with hh | ⟨_, hh, _⟩ | ⟨_, hh⟩
    ·exact hh
    ·exfalso
     rcases (by omega : v < w ∨ w < v) with hvw | hvw
     ·have h5 : ((v : Int) + 1) * B.s ≤ (w : Int) * B.s := Int.mul_le_mul_of_nonneg_right (by omega) (by have := h.cf.lay.s1; omega)
      rw [Int.add_mul, Int.one_mul] at h5
      omega
     ·have h5 : ((w : Int) + 1) * B.s ≤ (v : Int) * B.s := Int.mul_le_mul_of_nonneg_right (by omega) (by have := h.cf.lay.s1; omega)
      rw [Int.add_mul, Int.one_mul] at h5
      omega
    ·omega
  have store : ∀ k : Pu, T = .pu k → k.next = 3 → ∃ d1 : Dd, d1 = d0.over (Y b).moves (T.step (plOf B N w) (Y b).C (Y b).now z) ∧ d1.kd = 0 ∧ d1.ok = true ∧ (Y (b + 1)).ds[i]? = some d1 ∧ (Y (b + 1)).C = (Y b).C.set k.cl.slot.toNat k.pack ∧ PutAt Y B N i d1 b k.cl.slot.toNat := fun k hk hn => by
   subst hk
   have hF := hA.ok.putF h.cf hT hlen hw
   have hok := hF.ok
   have b1 := hF.lo
   have b2 := hF.hi
   have b3 := hF.n1
   obtain ⟨m0, _⟩ := h.cf.own hT hF.wT
   have hnp : ¬ k.ph ≠ 0 := by have := hF.ph; omega
   rcases hok.at' hF.ph with ⟨a1, _⟩ | ⟨a1, _⟩ | ⟨a1, _⟩ | ⟨a1, a2, a3⟩
   ·omega
   ·omega
   ·omega
   have e2 : k.cells N (2 * N + B.T) (Y b).C (Y b).now = (Y b).C.set k.cl.slot.toNat k.pack := by unfold Pu.cells; rw [if_neg hnp, if_neg (by omega), if_neg (by omega), if_neg (by omega)]
   have e3 : k.step ((w : Int) * B.s) (2 * N + B.T) (2 * N) (Y b).C (Y b).now = { k with ph := 1 } := by unfold Pu.step; rw [if_neg hnp, if_neg (by omega), if_neg (by omega), if_neg (by omega)]
   have e4 : d0.over (Y b).moves ((Wk.pu k).step (plOf B N w) (Y b).C (Y b).now z) = { d0 with till := (Y b).moves, ok := true, v := 0, lo := k.tk.lo, hi := k.tk.hi } := by
    show d0.over (Y b).moves (.pu (k.step ((w : Int) * B.s) (2 * N + B.T) (2 * N) (Y b).C (Y b).now)) = _
    rw [e3]
    rfl
   have e5 : (Y (b + 1)).C = (Y b).C.set k.cl.slot.toNat k.pack := by rw [hZC]; exact e2
   have hph : ¬ ((Wk.pu k).step (plOf B N w) (Y b).C (Y b).now z).ph = 0 := by
    show ¬ (k.step ((w : Int) * B.s) (2 * N + B.T) (2 * N) (Y b).C (Y b).now).ph = 0
    rw [e3]
    exact (by decide : ¬ (1 : Int) = 0)
   have hP := (hA.aok.put w k i hw).word hF.ph (.inl a2)
   obtain ⟨r1, r2, r3⟩ := hV.run w k i d0 hw k5
   have hg := hok.wg (.inl a2)
   refine ⟨_, rfl, ?_, ?_, ?_, e5, ?_⟩
   ·rw [e4]
    exact hkd
   ·rw [e4]
   ·rw [hZ]
    show (if ((Wk.pu k).step (plOf B N w) (Y b).C (Y b).now z).ph = 0 then (Y b).ds else (Y b).ds.modify i (fun d => d.over (Y b).moves ((Wk.pu k).step (plOf B N w) (Y b).C (Y b).now z)))[i]? = _
    rw [if_neg hph, zBm k5]
   ·rw [e4]
    refine ⟨rfl, by omega, by show d0.who * B.s ≤ _; rw [k6]; omega, by show _ < d0.who * B.s + B.s; rw [k6]; omega, hP.1, ?_, by omega, by show 0 ≤ d0.e; rw [← r2]; exact hok.e0, by show d0.e ≤ 1; rw [← r2]; exact hok.e1, hok.st a3, ?_, fun q hq => ?_, w, k, k6, hw, ?_⟩
    ·rw [e5, zAR _ (by omega), hP.2]
     show k.pack = 1 + 4 * d0.e + 8 * (k.cl.wg + 1) + 65536 * k.tk.lo + 1099511627776 * k.tk.hi
     rw [← r2]
     rfl
    ·rw [e5, zAH _ (by omega)]
     exact r3 a1
    ·rw [e5, zAH _ (fun e => hq e.symm)]
    ·rw [hZ]
     show (if ((Wk.pu k).step (plOf B N w) (Y b).C (Y b).now z).ph = 0 then (Y b).ts.set w (some ((Wk.pu k).step (plOf B N w) (Y b).C (Y b).now z, i)) else (Y b).ts.set w none)[w]? = _
     rw [if_neg hph, List.getElem?_set_self hlt]
  refine ⟨fun v k i' d hv hd => ?_, fun j d hd p q => ?_, ?_⟩
  ·rw [hZ] at hv hd
   rcases zAn hv with ⟨rfl, hq, h0⟩ | ⟨hvw, hq⟩
   ·have hv' : (if (T.step (plOf B N v) (Y b).C (Y b).now z).ph = 0 then (Y b).ts.set v (some (T.step (plOf B N v) (Y b).C (Y b).now z, i)) else (Y b).ts.set v Option.none)[v]? = some (some (Wk.pu k, i')) := hv
    rw [if_pos h0, List.getElem?_set_self hlt] at hv'
    obtain ⟨_, rfl⟩ := Prod.mk.inj (Option.some.inj (Option.some.inj hv'))
    cases T with
    | ge g => cases hq
    | pu p =>
     have hk : p.step ((v : Int) * B.s) (2 * N + B.T) (2 * N) (Y b).C (Y b).now = k := (Wk.pu.inj hq).symm
     have hd' : d = d0 := by
      rcases zA1 k5 hd with ⟨hd', _⟩ | ⟨_, q, _⟩
      ·rw [k5] at hd'
       cases hd'
       rfl
      ·exact absurd h0 q
     subst hd'
     obtain ⟨r1, r2, r3⟩ := hV.run v p i d hw k5
     have hF := hA.ok.putF h.cf hT hlen hw
     have b1 := hF.lo
     have b2 := hF.hi
     have b3 := hF.n1
     obtain ⟨m0, _⟩ := h.cf.own hT hF.wT
     have hnp : ¬ p.ph ≠ 0 := by have := hF.ph; omega
     have hsame := Pu.step_same p ((v : Int) * B.s) (2 * N + B.T) (2 * N) (Y b).C (Y b).now
     rw [hk] at hsame
     refine ⟨by rw [hsame.value]; exact r1, by rw [hsame.e]; exact r2, fun hn => ?_⟩
     rcases hF.ok.at' hF.ph with ⟨a1, _⟩ | ⟨a1, _⟩ | ⟨a1, _⟩ | ⟨a1, _⟩
     ·exfalso
      unfold Pu.step at hk
      rw [if_neg hnp, if_pos a1] at hk
      rw [← hk] at hn
      rcases zCo { p with cl := p.cl.step ((v : Int) * B.s) (2 * N) (Y b).C } (p.cl.step ((v : Int) * B.s) (2 * N) (Y b).C).ph with e | e
      ·rw [e] at hn
       have hn' : p.next = 3 := hn
       omega
      ·rw [e] at hn
       have hn' : p.next + 1 = 3 := hn
       omega
     ·exfalso
      unfold Pu.step at hk
      rw [if_neg hnp, if_neg (by omega), if_pos a1] at hk
      rw [← hk] at hn
      rcases zCo { p with tk := (stp (2 * N + B.T) p.tk (Y b).C (Y b).now).1 } (stp (2 * N + B.T) p.tk (Y b).C (Y b).now).1.ph with e | e
      ·rw [e] at hn
       have hn' : p.next = 3 := hn
       omega
      ·rw [e] at hn
       have hn' : p.next + 1 = 3 := hn
       omega
     ·unfold Pu.step at hk
      rw [if_neg hnp, if_neg (by omega), if_neg (by omega), if_pos a1] at hk
      have e2 : (Wk.pu p).cells (plOf B N v) (Y b).C (Y b).now = (Y b).C.set (N + p.cl.slot.toNat) p.value := by show p.cells N (2 * N + B.T) (Y b).C (Y b).now = _; unfold Pu.cells; rw [if_neg hnp, if_neg (by omega), if_neg (by omega), if_pos a1]
      rw [hZC, e2, ← hk]
      show ((Y b).C.set (N + p.cl.slot.toNat) p.value).getD (N + p.cl.slot.toNat) 0 = d.x
      rw [zAR _ (by omega)]
      exact r1
     ·exfalso
      unfold Pu.step at hk
      rw [if_neg hnp, if_neg (by omega), if_neg (by omega), if_neg (by omega)] at hk
      have h0' : (p.step ((v : Int) * B.s) (2 * N + B.T) (2 * N) (Y b).C (Y b).now).ph = 0 := h0
      unfold Pu.step at h0'
      rw [if_neg hnp, if_neg (by omega), if_neg (by omega), if_neg (by omega)] at h0'
      exact absurd h0' (by show ¬ (1 : Int) = 0; decide)
   ·have hd' : (Y b).ds[i']? = some d := by
     rcases zA1 k5 hd with ⟨hd', _⟩ | ⟨e1, _, _⟩
     ·exact hd'
     ·obtain ⟨_, _, _, _, d2, q5, q6, _⟩ := hA.ok.task v _ i' hq
      rw [e1, k5] at q5
      cases q5
      rw [k6] at q6
      omega
    rw [other v k i' hvw hq]
    exact hV.run v k i' d hq hd'
  ·rw [hZ] at hd
   rcases zA1 k5 hd with ⟨hd', _⟩ | ⟨rfl, hp, rfl⟩
   ·obtain ⟨p', j', h1, h2⟩ := hV.done j d hd' p q
    exact ⟨p', j', by omega, h2⟩
   ·cases T with
    | ge g =>
     rw [(Dd.over_same d0 (Y b).moves _).2.1, hkd] at p
     exact absurd p (by show ¬ kdI true = 0; decide)
    | pu k =>
     have hF := hA.ok.putF h.cf hT hlen hw
     have hnp : ¬ k.ph ≠ 0 := by have := hF.ph; omega
     have hp1 : (k.step ((w : Int) * B.s) (2 * N + B.T) (2 * N) (Y b).C (Y b).now).ph = 1 := by
      by_cases hq : (k.step ((w : Int) * B.s) (2 * N + B.T) (2 * N) (Y b).C (Y b).now).ph = 1
      ·exact hq
      ·have e4 : d0.over (Y b).moves ((Wk.pu k).step (plOf B N w) (Y b).C (Y b).now z) = { d0 with till := (Y b).moves } := if_neg hq
       rw [e4] at q
       exact absurd ((show d0.ok = true from q).symm.trans k8) (by decide)
     have hn3 : k.next = 3 := by
      rcases hF.ok.at' hF.ph with ⟨a1, _⟩ | ⟨a1, _⟩ | ⟨a1, _⟩ | ⟨a1, _⟩
      ·exfalso
       unfold Pu.step at hp1
       rw [if_neg hnp, if_pos a1] at hp1
       exact zBR _ _ (by exact Classical.not_not.1 hnp) hp1
      ·exfalso
       unfold Pu.step at hp1
       rw [if_neg hnp, if_neg (by omega), if_pos a1] at hp1
       exact zBR _ _ (by exact Classical.not_not.1 hnp) hp1
      ·exfalso
       unfold Pu.step at hp1
       rw [if_neg hnp, if_neg (by omega), if_neg (by omega), if_pos a1] at hp1
       have : k.ph = 1 := hp1
       omega
      ·exact a1
     obtain ⟨d1, rfl, _, _, _, _, h6⟩ := store k rfl hn3
     exact ⟨b, _, by omega, h6⟩
  ·by_cases hs : ∃ k : Pu, T = .pu k ∧ k.next = 3
   ·obtain ⟨k, hk, hn⟩ := hs
    obtain ⟨d1, h1, h2, h3, h4, h5, h6⟩ := store k hk hn
    intro j hj hlive
    by_cases e : j = k.cl.slot.toNat
    ·subst e
     exact ⟨i, d1, b, h4, h2, h3, by omega, h6, rfl, h6.value⟩
    ·have c1 := h6.rest j e
     have c2 : (Y (b + 1)).C.getD (N + j) 0 = (Y b).C.getD (N + j) 0 := h6.rest (N + j) (by have := h6.lt; omega)
     rw [c1] at hlive
     obtain ⟨i2, d, p, p1, p2, p3, p4, p5, p6, p7⟩ := hV.live j hj hlive
     exact ⟨i2, d, p, keep i2 d p1 p3, p2, p3, by omega, p5, c1.trans p6, c2.trans p7⟩
   ·refine hV.live_same (fun j hj hlive => ?_) keep
    rw [hZC] at hlive ⊢
    cases T with
    | ge g =>
     rcases zFs hA.aok hA.ok hlen hw (q := j) (by omega) with hh | ⟨_, _, hh⟩
     ·rcases zFs hA.aok hA.ok hlen hw (q := N + j) (by omega) with hh2 | ⟨hh2, _⟩
      ·exact ⟨hh, hh2⟩
      ·omega
     ·have hlive' : (g.cells N (2 * N + w) (Y b).C).getD j 0 % 4 = 1 := hlive
      omega
    | pu p =>
     have hF := hA.ok.putF h.cf hT hlen hw
     have b1 := hF.lo
     have b2 := hF.hi
     have b3 := hF.n1
     obtain ⟨m0, _⟩ := h.cf.own hT hF.wT
     have hn3 : ¬ p.next = 3 := fun e => hs ⟨p, rfl, e⟩
     have hn := hF.ok.at' hF.ph
     rcases zE1 (nb := 2 * N + B.T) (C := (Y b).C) (now := (Y b).now) hF.ph (by rcases hn with h | h | h | h <;> omega) (by omega) (by omega : p.cl.slot.toNat < N) (q := j) (by omega) with hh | ⟨_, hh, _⟩ | ⟨hh, _⟩
     ·rcases zE1 (nb := 2 * N + B.T) (C := (Y b).C) (now := (Y b).now) hF.ph (by rcases hn with h | h | h | h <;> omega) (by omega) (by omega : p.cl.slot.toNat < N) (q := N + j) (by omega) with hh2 | ⟨h2, hh2, _⟩ | ⟨hh2, _⟩
      ·exact ⟨hh, hh2⟩
      ·exfalso
       have hlive' : (p.cells N (2 * N + B.T) (Y b).C (Y b).now).getD j 0 % 4 = 1 := hlive
       rw [hh] at hlive'
       have hj2 : p.cl.slot.toNat = j := by omega
       rcases hn with ⟨a1, _⟩ | ⟨a1, _⟩ | ⟨a1, a2, _⟩ | ⟨a1, _⟩
       ·omega
       ·omega
       ·have hP := (hA.aok.put w p i hw).word hF.ph (.inl a2)
        rw [hj2] at hP
        exact hP.1 hlive'
       ·omega
      ·exact absurd hh2 hn3
     ·omega
     ·exact absurd hh hn3
theorem YTr.puts (h : YTr B N Y m) : ∀ b, b ≤ m → VTr Y B N b
 | 0, _ => VTr.start h
 | b + 1, hb => (YTr.puts h b (by omega)).next h (by omega)
end
end
section
open Go.RowKit
section
variable {B : YB} {N n m b w : Nat} {Y : Nat → Yd}
theorem zFJ {Y Y' : Yd} (h : YHow B N Y Y') {v w : Nat} (hv : Y'.ts[v]? ≠ Y.ts[v]?) (hw : Y'.ts[w]? ≠ Y.ts[w]?) : v = w := by
 cases h with
 | rest => exact absurd rfl hv
 | pass n hn => exact absurd rfl hv
 | call w0 take kd e x s h1 h2 h3 =>
  have key : ∀ u, (Y.call w0 kd e x s (wkB B N w0 take e x s)).ts[u]? ≠ Y.ts[u]? → w0 = u := fun u hu => Classical.byContradiction fun hne => hu (List.getElem?_set_ne hne)
  exact (key v hv).symm.trans (key w hw)
 | step w0 T i z h1 h2 =>
  have key : ∀ u, (Y.step (plOf B N w0) w0 T i z).ts[u]? ≠ Y.ts[u]? → w0 = u := fun u hu => Classical.byContradiction fun hne => hu (by
   show (if (T.step (plOf B N w0) Y.C Y.now z).ph = 0 then Y.ts.set w0 (some (T.step (plOf B N w0) Y.C Y.now z, i)) else Y.ts.set w0 none)[u]? = _
   split <;> exact List.getElem?_set_ne hne)
  exact (key v hv).symm.trans (key w hw)
theorem YHow.over {Y Y' : Yd} (ho : YOk (plOf B N) B.T n Y) (h : YHow B N Y Y') {i : Nat} {d : Dd} (hd : Y.ds[i]? = some d) (hok : d.ok = true ∨ d.till ≠ -1) : Y'.ds[i]? = some d := by
 cases h with
 | rest => exact hd
 | pass n hn => exact hd
 | call w0 take kd e x s h1 h2 h3 =>
  show (Y.ds ++ [_])[i]? = some d
  rw [List.getElem?_append_left (List.getElem?_eq_some_iff.1 hd).1]
  exact hd
 | step w0 T i0 z h1 h2 =>
  obtain ⟨_, _, _, _, d0, k5, _, k7, k8, _⟩ := ho.task w0 T i0 h1
  show (if (T.step (plOf B N w0) Y.C Y.now z).ph = 0 then Y.ds else Y.ds.modify i0 (fun d => d.over Y.moves (T.step (plOf B N w0) Y.C Y.now z)))[i]? = some d
  split
  ·exact hd
  ·rw [zB1 (fun e => ?_)]
   ·exact hd
   ·rw [← e, k5] at hd
    cases hd
    rcases hok with hok | hok
    ·rw [k8] at hok
     cases hok
    ·exact hok k7
theorem YTr.over (h : YTr B N Y m) {i : Nat} {d : Dd} {a : Nat} : ∀ {b : Nat}, a ≤ b → b ≤ m → (Y a).ds[i]? = some d → (d.ok = true ∨ d.till ≠ -1) → (Y b).ds[i]? = some d := by
 intro b hab hb hd hok
 induction b with
 | zero =>
  obtain rfl : a = 0 := by omega
  exact hd
 | succ b ih =>
  by_cases hq : a = b + 1
  ·rw [← hq]
   exact hd
  ·exact (h.how b (by omega)).over (h.all b (by omega)).ok (ih (by omega) (by omega)) hok
theorem YTr.moves (h : YTr B N Y m) {a : Nat} : ∀ {b : Nat}, a ≤ b → b ≤ m → (Y a).moves ≤ (Y b).moves := by
 intro b hab hb
 induction b with
 | zero =>
  obtain rfl : a = 0 := by omega
  exact Nat.le_refl _
 | succ b ih =>
  by_cases hq : a = b + 1
  ·rw [← hq]
   exact Nat.le_refl _
  ·refine Nat.le_trans (ih (by omega) (by omega)) ?_
   have hw := h.how b (by omega)
   generalize Y (b + 1) = Z at hw
   cases hw with
   | rest => exact Nat.le_refl _
   | pass n hn => exact Nat.le_refl _
   | call w0 take kd e x s h1 h2 h3 => exact Nat.le_succ _
   | step w0 T i0 z h1 h2 => exact Nat.le_succ _
theorem PutAt.live {i p j : Nat} {d : Dd} (h : PutAt Y B N i d p j) : (Y (p + 1)).C.getD j 0 % 4 = 1 := by
 have h1 := h.word
 omega
theorem zGP (h : YTr B N Y m) {i i' p p' j : Nat} {d d' : Dd} (h1 : PutAt Y B N i d p j) (h2 : PutAt Y B N i' d' p' j) (hp : p < m) (hp' : p' < m) (he : (Y (p + 1)).C.getD j 0 = (Y (p' + 1)).C.getD j 0) : p = p' ∧ i = i' := by
 have e : p = p' := by
  rcases Nat.lt_trichotomy p p' with hlt | heq | hlt
  ·have := h.stays h1.lt (a := p + 1) (b := p') (c := p' + 1) (by omega) (by omega) (by omega) he
   have h3 := h1.live
   have h4 := h2.free
   omega
  ·exact heq
  ·have := h.stays h1.lt (a := p' + 1) (b := p) (c := p + 1) (by omega) (by omega) (by omega) he.symm
   have h3 := h2.live
   have h4 := h1.free
   omega
 refine ⟨e, ?_⟩
 subst e
 obtain ⟨w, k, r1, r2, _⟩ := h1.run
 obtain ⟨w', k', q1, q2, _⟩ := h2.run
 have s1 := h.cf.lay.s1
 have a1 := h1.own0
 have a2 := h1.own1
 have a3 := h2.own0
 have a4 := h2.own1
 rw [r1] at a1 a2
 rw [q1] at a3 a4
 have e1 := zEK s1 a1 a2
 have e2 := zEK s1 a3 a4
 obtain rfl : w = w' := by omega
 rw [r2] at q2
 exact (Prod.mk.inj (Option.some.inj (Option.some.inj q2))).2
theorem zCU {C : List Int} {N j : Nat} (hj : j < N) : (C.take N).getD j 0 = C.getD j 0 := by
 rw [List.getD_eq_getElem?_getD, List.getD_eq_getElem?_getD, List.getElem?_take, if_pos hj]
theorem IsEnd.is {C : List Int} {N j : Nat} {e : Int} (h : IsEnd (C.take N) e j) (hj : j < N) : C.getD j 0 % 4 = 1 := by
 rcases h with ⟨h, _⟩ | ⟨i, h1, _, h3, _⟩
 ·omega
 ·obtain rfl : i = j := by omega
  rw [← zCU hj]
  exact h3
structure Had (Y : Nat → Yd) (B : YB) (N w g : Nat) (e : Int) (f b : Nat) (v : Int) (c s j i p : Nat) (d : Dd) : Prop where
 fc : f ≤ c
 cs : c ≤ s
 sb : s < b
 lt : j < N
 isEnd : IsEnd ((Y c).C.take N) e j
 was : (Y s).C.getD j 0 = (Y c).C.getD j 0
 new : (Y (s + 1)).C.getD j 0 = tkW ((Y c).C.getD j 0)
 run : ∃ k, (Y s).ts[w]? = some (some (.ge k, g))
 turn : (Y (s + 1)).ts[w]? ≠ (Y s).ts[w]?
 deed : (Y c).ds[i]? = some d
 kd : d.kd = 0
 ok : d.ok = true
 pc : p < c
 put : PutAt Y B N i d p j
 word : (Y c).C.getD j 0 = (Y (p + 1)).C.getD j 0
 val : v = d.x
theorem zIX (h : YTr B N Y m) {g f : Nat} {e v : Int} (hb : b ≤ m) (hg : Got Y N w g e f b v) : ∃ c s j i p d, Had Y B N w g e f b v c s j i p d := by
 obtain ⟨c, u, s, j, h1, h2, h3, h4, h5, h6, h7, h8, h9, h10, h11⟩ := hg
 have hl := h6.is h5
 obtain ⟨i, d, p, p1, p2, p3, p4, p5, p6, p7⟩ := (h.puts c (by omega)).live j h5 hl
 have hu := h.stays h5 h2 h3 (by omega) h7.symm
 obtain ⟨i2, d2, q, q1, q2, q3, q4, q5, q6, q7⟩ := (h.puts u (by omega)).live j h5 (by rw [hu]; exact hl)
 obtain ⟨rfl, _⟩ := zGP h p5 q5 (by omega) (by omega) (by rw [← p6, ← q6, hu])
 refine ⟨c, s, j, i, p, d, h1, by omega, h4, h5, h6, h7, h8, h10, h11, p1, p2, p3, p4, p5, p6, ?_⟩
 rw [h9, q7, ← q5.value, p5.value]
end
end
section
open Go.RowKit
def Gone (Y : Nat → Yd) (b p j : Nat) (x : Int) : Prop :=
 ∃ (s g : Nat) (dg : Dd), p < s ∧ s < b ∧ (Y s).C.getD j 0 = (Y (p + 1)).C.getD j 0 ∧ (Y (s + 1)).C.getD j 0 = tkW ((Y (p + 1)).C.getD j 0) ∧ (Y s).moves < (Y b).moves ∧ (Y b).ds[g]? = some dg ∧ dg.kd = 1 ∧ dg.fr < (Y s).moves ∧ (∃ w : Nat, dg.who = w ∧ (∃ k, (Y s).ts[w]? = some (some (.ge k, g))) ∧ (Y (s + 1)).ts[w]? ≠ (Y s).ts[w]?) ∧
  ((∃ (w : Nat) (k : Ge) (a : Ta), (Y b).ts[w]? = some (some (.ge k, g)) ∧ k.ta = some a ∧ a.next = 4 ∧ a.lost = false ∧ a.value = x) ∨ (dg.ok = true ∧ (Y s).moves < dg.till ∧ dg.v = x))
section
variable {B : YB} {N n m b w : Nat} {Y : Nat → Yd}
theorem zEU {Y : Yd} {k : Ge} {i : Nat} (ho : YOk (plOf B N) B.T n Y) (hw : Y.ts[w]? = some (some (.ge k, i))) {q : Nat} (hq : q < N) (hne : (k.cells N (2 * N + w) Y.C).getD q 0 ≠ Y.C.getD q 0) :
  ∃ a, k.ta = some a ∧ a.next = 3 ∧ a.lost = false ∧ a.slot = q ∧ a.word = Y.C.getD q 0 ∧ k.cells N (2 * N + w) Y.C = Y.C.set q (tkW a.word) ∧ ∀ z, k.step N (2 * N + w) Y.C z = { k with ta := some { a with next := 4 } } := by
 have hF := ho.getF hw
 have hnp : ¬ k.ph ≠ 0 := by have := hF.ph; omega
 cases hta : k.ta with
 | none =>
  exfalso
  apply hne
  unfold Ge.cells
  rw [if_neg hnp, hta]
 | some a =>
  obtain ⟨_, a2, b3, b4, b5⟩ := hF.ta a hta
  have hna : ¬ a.ph ≠ 0 := by omega
  have hc : k.cells N (2 * N + w) Y.C = a.cells a.slot.toNat (2 * N + w) Y.C := by unfold Ge.cells; rw [if_neg hnp, hta]
  rw [hc] at hne ⊢
  by_cases n0 : a.next = 0
  ·exfalso
   apply hne
   unfold Ta.cells
   rw [if_neg hna, if_pos n0]
   exact zAH _ (by omega)
  by_cases n1 : a.next = 1
  ·exfalso
   apply hne
   unfold Ta.cells
   rw [if_neg hna, if_neg n0, if_pos n1]
  by_cases n2 : a.next = 2
  ·exfalso
   apply hne
   unfold Ta.cells
   rw [if_neg hna, if_neg n0, if_neg n1, if_pos n2]
  by_cases n3 : a.next = 3
  ·by_cases hx : Y.C.getD a.slot.toNat 0 = a.word
   ·have e1 : a.cells a.slot.toNat (2 * N + w) Y.C = Y.C.set a.slot.toNat (tkW a.word) := by
     unfold Ta.cells
     rw [if_neg hna, if_neg n0, if_neg n1, if_neg n2, if_pos n3, if_pos hx]
    rw [e1] at hne ⊢
    have hs : a.slot.toNat = q := Classical.byContradiction fun hh => hne (zAH _ hh)
    refine ⟨a, rfl, n3, ?_, by omega, by rw [← hs, hx], by rw [hs], fun z => ?_⟩
    ·rcases b5.st a2 with ⟨h, _⟩ | ⟨h, _⟩ | ⟨h, _⟩ | ⟨_, h⟩ | h
     ·omega
     ·omega
     ·omega
     ·exact h
     ·omega
    ·have e2 : k.step N (2 * N + w) Y.C z = k.grab N (a.go a.slot.toNat (N + a.slot.toNat) Y.C) := by unfold Ge.step; rw [if_neg hnp, hta]
     have e3 : a.go a.slot.toNat (N + a.slot.toNat) Y.C = { a with next := 4 } := by unfold Ta.go; rw [if_neg hna, if_neg n0, if_neg n1, if_neg n2, if_pos n3, if_pos hx]
     rw [e2, e3]
     unfold Ge.grab
     rw [if_neg (by show ¬ a.ph = 1; omega), if_neg (by show ¬ a.ph = 2; omega)]
   ·exfalso
    apply hne
    unfold Ta.cells
    rw [if_neg hna, if_neg n0, if_neg n1, if_neg n2, if_pos n3, if_neg hx]
  ·exfalso
   apply hne
   unfold Ta.cells
   rw [if_neg hna, if_neg n0, if_neg n1, if_neg n2, if_neg n3]
   exact zAH _ (by omega)
theorem zIL {k : Ge} {a : Ta} {C : List Int} {hz : Nat} {z : Int} (hp : k.ph = 0) (ha : k.ta = some a) (h0 : a.ph = 0) (hn : a.next = 4) (hl : a.lost = false) : (k.step N hz C z).ph = 1 ∧ (k.step N hz C z).val = a.value := by
 have e2 : k.step N hz C z = k.grab N (a.go a.slot.toNat (N + a.slot.toNat) C) := by unfold Ge.step; rw [if_neg (by omega), ha]
 have e3 : a.go a.slot.toNat (N + a.slot.toNat) C = { a with next := 5, ph := 1 } := by unfold Ta.go; rw [if_neg (by omega), if_neg (by omega), if_neg (by omega), if_neg (by omega), if_neg (by omega), if_neg (by rw [hl]; decide)]
 rw [e2, e3]
 unfold Ge.grab
 rw [if_pos rfl]
 exact ⟨rfl, rfl⟩
theorem Gone.next (h : YTr B N Y m) {p j : Nat} {x : Int} (hb : b < m) (hG : Gone Y b p j x) : Gone Y (b + 1) p j x := by
 obtain ⟨s, g, dg, s1, s2, s3, s4, s5, s6, s7, s8, s9, s10⟩ := hG
 have hA := h.all b (by omega)
 have hhow := h.how b hb
 have hmv := h.moves (show b ≤ b + 1 by omega) (by omega)
 rcases s10 with ⟨w, k, a, r1, r2, r3, r4, r5⟩ | ⟨r1, r2, r3⟩
 ·obtain ⟨_, _, _, kp, dg', k5, k6, k7, k8, _⟩ := hA.ok.task w _ g r1
  rw [s6] at k5
  cases k5
  have hF := hA.ok.getF r1
  obtain ⟨_, a2, _⟩ := hF.ta a r2
  generalize hZ : Y (b + 1) = Z at hhow hmv
  cases hhow with
  | rest => exact ⟨s, g, dg, s1, by omega, s3, s4, by rw [hZ]; omega, by rw [hZ]; exact s6, s7, s8, s9, .inl ⟨w, k, a, by rw [hZ]; exact r1, r2, r3, r4, r5⟩⟩
  | pass n hn => exact ⟨s, g, dg, s1, by omega, s3, s4, by rw [hZ]; omega, by rw [hZ]; exact s6, s7, s8, s9, .inl ⟨w, k, a, by rw [hZ]; exact r1, r2, r3, r4, r5⟩⟩
  | call w0 take kd e x s' h1 h2 h3 =>
   refine ⟨s, g, dg, s1, by omega, s3, s4, by rw [hZ]; omega, ?_, s7, s8, s9, .inl ⟨w, k, a, ?_, r2, r3, r4, r5⟩⟩
   ·rw [hZ]
    show ((Y b).ds ++ [_])[g]? = some dg
    rw [List.getElem?_append_left (List.getElem?_eq_some_iff.1 s6).1]
    exact s6
   ·rw [hZ]
    show ((Y b).ts.set w0 _)[w]? = _
    rw [List.getElem?_set_ne (fun e => by rw [e, r1] at h1; cases h1)]
    exact r1
  | step w0 T i z h1 h2 =>
   by_cases hw : w0 = w
   ·subst hw
    rw [r1] at h1
    cases h1
    obtain ⟨l1, l2⟩ := zIL (N := N) (C := (Y b).C) (hz := 2 * N + w0) (z := z) hF.ph r2 a2 r3 r4
    have hph : ¬ ((Wk.ge k).step (plOf B N w0) (Y b).C (Y b).now z).ph = 0 := by
     show ¬ (k.step N (2 * N + w0) (Y b).C z).ph = 0
     omega
    have e4 : dg.over (Y b).moves ((Wk.ge k).step (plOf B N w0) (Y b).C (Y b).now z) = { dg with till := (Y b).moves, ok := true, v := (k.step N (2 * N + w0) (Y b).C z).val, lo := 0, hi := 0 } := if_pos l1
    refine ⟨s, g, { dg with till := (Y b).moves, ok := true, v := (k.step N (2 * N + w0) (Y b).C z).val, lo := 0, hi := 0 }, s1, by omega, s3, s4, by rw [hZ]; omega, ?_, s7, s8, s9, .inr ⟨rfl, ?_, ?_⟩⟩
    ·rw [hZ]
     show (if ((Wk.ge k).step (plOf B N w0) (Y b).C (Y b).now z).ph = 0 then (Y b).ds else (Y b).ds.modify g (fun d => d.over (Y b).moves ((Wk.ge k).step (plOf B N w0) (Y b).C (Y b).now z)))[g]? = _
     rw [if_neg hph, zBm s6, e4]
    ·show ((Y s).moves : Int) < ((Y b).moves : Int)
     omega
    ·exact l2.trans r5
   ·refine ⟨s, g, dg, s1, by omega, s3, s4, by rw [hZ]; omega, ?_, s7, s8, s9, .inl ⟨w, k, a, ?_, r2, r3, r4, r5⟩⟩
    ·rw [hZ]
     show (if (T.step (plOf B N w0) (Y b).C (Y b).now z).ph = 0 then (Y b).ds else (Y b).ds.modify i (fun d => d.over (Y b).moves (T.step (plOf B N w0) (Y b).C (Y b).now z)))[g]? = _
     split
     ·exact s6
     ·obtain ⟨_, _, _, _, d2, q5, q6, _⟩ := hA.ok.task w0 _ i h1
      rw [zB1 (fun e => ?_)]
      ·exact s6
      ·rw [e, s6] at q5
       cases q5
       rw [k6] at q6
       omega
    ·rw [hZ]
     show (if (T.step (plOf B N w0) (Y b).C (Y b).now z).ph = 0 then (Y b).ts.set w0 (some (T.step (plOf B N w0) (Y b).C (Y b).now z, i)) else (Y b).ts.set w0 none)[w]? = _
     split
     ·rw [List.getElem?_set_ne hw]
      exact r1
     ·rw [List.getElem?_set_ne hw]
      exact r1
 ·exact ⟨s, g, dg, s1, by omega, s3, s4, by omega, hhow.over hA.ok s6 (.inl r1), s7, s8, s9, .inr ⟨r1, r2, r3⟩⟩
theorem PutAt.there (h : YTr B N Y m) {i p j : Nat} {d : Dd} (hP : PutAt Y B N i d p j) : ∀ {b : Nat}, p < b → b ≤ m → (Y b).C.getD j 0 = (Y (p + 1)).C.getD j 0 ∨ Gone Y b p j d.x := by
 intro b hpb hb
 induction b with
 | zero => omega
 | succ b ih =>
  by_cases hq : p = b
  ·rw [hq]
   exact .inl rfl
  rcases ih (by omega) (by omega) with hs | hg
  ·by_cases hne : (Y (b + 1)).C.getD j 0 = (Y b).C.getD j 0
   ·exact .inl (hne.trans hs)
   right
   have hA := h.all b (by omega)
   have hhow := h.how b (by omega)
   have hlv : (Y b).C.getD j 0 % 4 = 1 := by rw [hs]; exact hP.live
   have hj := hP.lt
   generalize hZ : Y (b + 1) = Z at hhow hne
   cases hhow with
   | rest => exact absurd rfl hne
   | pass n hn => exact absurd rfl hne
   | call w0 take kd e x s' h1 h2 h3 => exact absurd rfl hne
   | step w T g z hw ha =>
    obtain ⟨_, _, _, _, dg, k5, k6, k7, k8, _⟩ := hA.ok.task w T g hw
    have hkd := hA.cok.kind w T g dg hw k5
    have hlt : w < (Y b).ts.length := (List.getElem?_eq_some_iff.1 hw).1
    cases T with
    | pu k =>
     exfalso
     have hF := hA.ok.putF h.cf h.hT hA.len hw
     have b1 := hF.lo
     have b2 := hF.hi
     have b3 := hF.n1
     have hT := h.hT
     have hlen := hA.len
     obtain ⟨m0, _⟩ := h.cf.own h.hT hF.wT
     have hn := hF.ok.at' hF.ph
     rcases zE1 (nb := 2 * N + B.T) (C := (Y b).C) (now := (Y b).now) hF.ph (by rcases hn with h | h | h | h <;> omega) (by omega) (by omega : k.cl.slot.toNat < N) (q := j) (by omega) with hh | ⟨_, hh, _⟩ | ⟨n3, hh⟩
     ·exact hne hh
     ·omega
     ·rcases hn with ⟨a1, _⟩ | ⟨a1, _⟩ | ⟨a1, _⟩ | ⟨a1, a2, _⟩
      ·omega
      ·omega
      ·omega
      ·have hP := (hA.aok.put w k g hw).word hF.ph (.inl a2)
       rw [← hh] at hP
       exact hP.1 hlv
    | ge k =>
     obtain ⟨a, t1, t2, t3, t4, t5, t6, t7⟩ := zEU hA.ok hw hj hne
     have hM := (h.gets b (by omega)).run w k g dg hw k5
     obtain ⟨f, f1, f2, _, f4⟩ := hM.ex
     obtain ⟨c, j', c1, c2, c3, c4, c5, c6, c7⟩ := (f4 a t1).at'
     obtain rfl : j' = j := by omega
     obtain ⟨u, u1, u2, u3⟩ := c7 t2 t3
     have hwu : (Y u).C.getD j' 0 = (Y (p + 1)).C.getD j' 0 := by
      rw [h.stays hj u1 (Nat.le_of_lt u2) (by omega) (by rw [← c6, t5]), ← c6, t5, hs]
     obtain ⟨i2, d2, q, q1, q2, q3, q4, q5, q6, q7⟩ := (h.puts u (by omega)).live j' hj (by rw [hwu]; exact hP.live)
     obtain ⟨rfl, _⟩ := zGP h hP q5 (by omega) (by omega) (by rw [← q6, hwu])
     have hx : a.value = d.x := by rw [u3, q7, ← q5.value, hP.value]
     have hdd := (hA.ok.deed g dg k5).2.2.1
     have e7 := t7 z
     have hph : ((Wk.ge k).step (plOf B N w) (Y b).C (Y b).now z).ph = 0 := by
      show (k.step N (2 * N + w) (Y b).C z).ph = 0
      rw [e7]
      exact hA.ok.getF hw |>.ph
     have ets : (Y (b + 1)).ts[w]? = some (some (Wk.ge { k with ta := some { a with next := 4 } }, g)) := by
      rw [hZ]
      show (if ((Wk.ge k).step (plOf B N w) (Y b).C (Y b).now z).ph = 0 then (Y b).ts.set w (some ((Wk.ge k).step (plOf B N w) (Y b).C (Y b).now z, g)) else (Y b).ts.set w none)[w]? = _
      rw [if_pos hph, List.getElem?_set_self hlt]
      show some (some (Wk.ge (k.step N (2 * N + w) (Y b).C z), g)) = _
      rw [e7]
     have eds : (Y (b + 1)).ds[g]? = some dg := by
      rw [hZ]
      show (if ((Wk.ge k).step (plOf B N w) (Y b).C (Y b).now z).ph = 0 then (Y b).ds else (Y b).ds.modify g (fun d => d.over (Y b).moves ((Wk.ge k).step (plOf B N w) (Y b).C (Y b).now z)))[g]? = _
      rw [if_pos hph]
      exact k5
     have hlen := hA.len
     have hT := h.hT
     refine ⟨b, g, dg, by omega, by omega, hs, ?_, ?_, eds, hkd, by omega, ⟨w, k6, ⟨k, hw⟩, ?_⟩, .inl ⟨w, _, _, ets, rfl, rfl, t3, hx⟩⟩
     ·rw [hZ]
      show (k.cells N (2 * N + w) (Y b).C).getD j' 0 = _
      rw [t6, zAR _ (by omega), t5, hs]
     ·rw [hZ]
      show (Y b).moves < (Y b).moves + 1
      omega
     ·rw [ets, hw]
      intro hh
      have hh' := Wk.ge.inj (Prod.mk.inj (Option.some.inj (Option.some.inj hh))).1
      have h5 : k.ta = some { a with next := 4 } := by rw [← hh']
      rw [t1] at h5
      have h6 : a = { a with next := 4 } := Option.some.inj h5
      have h7 : a.next = 4 := by rw [h6]
      omega
  ·exact .inr (hg.next h (by omega))
end
end
section
open Go.RowKit
structure Took (Y : Nat → Yd) (N m p j : Nat) (x : Int) (g c s : Nat) (dg : Dd) : Prop where
 pc : p < c
 cs : c ≤ s
 sm : s < m
 was : (Y s).C.getD j 0 = (Y (p + 1)).C.getD j 0
 new : (Y (s + 1)).C.getD j 0 = tkW ((Y (p + 1)).C.getD j 0)
 isEnd : IsEnd ((Y c).C.take N) dg.e j
 deed : (Y m).ds[g]? = some dg
 kd : dg.kd = 1
 fr : dg.fr < (Y c).moves
 out : dg.till = -1 ∨ (dg.ok = true ∧ (Y s).moves < dg.till ∧ dg.v = x)
 run : ∃ w : Nat, (∃ k, (Y s).ts[w]? = some (some (.ge k, g))) ∧ (Y (s + 1)).ts[w]? ≠ (Y s).ts[w]?
section
variable {B : YB} {N m : Nat} {Y : Nat → Yd}
theorem YTr.later (h : YTr B N Y m) {a : Nat} : ∀ {b : Nat}, a ≤ b → b ≤ m → YLater (Y a) (Y b) := by
 intro b hab hb
 induction b with
 | zero =>
  obtain rfl : a = 0 := by omega
  exact YLater.refl _
 | succ b ih =>
  by_cases hq : a = b + 1
  ·rw [← hq]
   exact YLater.refl _
  ·exact (ih (by omega) (by omega)).trans ((h.mv b (by omega)).later (h.all b (by omega)).ok)
theorem Gone.took (h : YTr B N Y m) {i p j : Nat} {d : Dd} (hP : PutAt Y B N i d p j) (hG : Gone Y m p j d.x) : ∃ g c s dg, Took Y N m p j d.x g c s dg := by
 obtain ⟨s, g, dg, s1, s2, s3, s4, s5, s6, s7, s8, ⟨w, s9, ⟨k, s10⟩, s11⟩, s12⟩ := hG
 have hA := h.all s (by omega)
 have hj := hP.lt
 have hlv := hP.live
 have hf := ((h.fit (p + 1) (by omega)) j).1
 have htk := (zAm hf).1
 have hne : (Y (s + 1)).C.getD j 0 ≠ (Y s).C.getD j 0 := fun e => by
  rw [s4, s3] at e
  omega
 have hmv : ∃ z, Y (s + 1) = (Y s).step (plOf B N w) w (.ge k) g z := by
  have hhow := h.how s (by omega)
  generalize hZ : Y (s + 1) = Z at hhow hne s11
  cases hhow with
  | rest => exact absurd rfl hne
  | pass n hn => exact absurd rfl hne
  | call w0 take kd e x s' h1 h2 h3 => exact absurd rfl hne
  | step w0 T i0 z h1 h2 =>
   have : w0 = w := Classical.byContradiction fun hw => s11 (by
    show (if (T.step (plOf B N w0) (Y s).C (Y s).now z).ph = 0 then (Y s).ts.set w0 (some (T.step (plOf B N w0) (Y s).C (Y s).now z, i0)) else (Y s).ts.set w0 none)[w]? = _
    split <;> exact List.getElem?_set_ne hw)
   subst this
   rw [s10] at h1
   cases h1
   exact ⟨z, rfl⟩
 obtain ⟨z, hmv⟩ := hmv
 have hne' : (k.cells N (2 * N + w) (Y s).C).getD j 0 ≠ (Y s).C.getD j 0 := by
  intro e
  apply hne
  rw [hmv]
  exact e
 obtain ⟨a, t1, t2, t3, t4, t5, _, _⟩ := zEU hA.ok s10 hj hne'
 obtain ⟨_, _, _, _, d0, k5, _⟩ := hA.ok.task w _ g s10
 have hM := (h.gets s (by omega)).run w k g d0 s10 k5
 obtain ⟨f, f1, f2, _, f4⟩ := hM.ex
 obtain ⟨c, j', c1, c2, c3, c4, c5, c6, c7⟩ := (f4 a t1).at'
 obtain rfl : j' = j := by omega
 obtain ⟨dg', l1, l2, l3, l4, l5, l6, l7, _⟩ := (h.later (show s ≤ m by omega) (Nat.le_refl _)).deed g d0 k5
 rw [s6] at l1
 cases l1
 have hword : (Y c).C.getD j' 0 = (Y (p + 1)).C.getD j' 0 := by rw [← c6, t5, s3]
 have hpc : p < c := Nat.lt_of_not_le fun hcp => by
  have := h.stays hj (a := c) (b := p) (c := p + 1) hcp (by omega) (by omega) hword
  have hfree := hP.free
  rw [this, hword] at hfree
  exact hfree hlv
 have hfc := h.moves c1 (by omega)
 refine ⟨g, c, s, dg, hpc, by omega, s2, s3, s4, by rw [l4, ← hM.e]; exact c5, s6, s7, by omega, ?_, w, ⟨k, s10⟩, s11⟩
 rcases s12 with ⟨w', k', a', r1, _⟩ | ⟨r1, r2, r3⟩
 ·obtain ⟨_, _, _, _, d2, q5, _, q7, _⟩ := (h.all m (Nat.le_refl _)).ok.task w' _ g r1
  rw [s6] at q5
  cases q5
  exact .inl q7
 ·exact .inr ⟨r1, r2, r3⟩
theorem zEg {s w g : Nat} {k : Ge} (hhow : YHow B N (Y s) (Y (s + 1))) (h1 : (Y s).ts[w]? = some (some (.ge k, g))) (h2 : (Y (s + 1)).ts[w]? ≠ (Y s).ts[w]?) (h3 : (Y (s + 1)).C ≠ (Y s).C) : ∃ z, Y (s + 1) = (Y s).step (plOf B N w) w (.ge k) g z := by
 generalize Y (s + 1) = Z at hhow h2 h3
 cases hhow with
 | rest => exact absurd rfl h2
 | pass n hn => exact absurd rfl h2
 | call w0 take kd e x s' h1 h2 h3' => exact absurd rfl h3
 | step w0 T i0 z q1 q2 =>
  have : w0 = w := Classical.byContradiction fun hw => h2 (by
   show (if (T.step (plOf B N w0) (Y s).C (Y s).now z).ph = 0 then (Y s).ts.set w0 (some (T.step (plOf B N w0) (Y s).C (Y s).now z, i0)) else (Y s).ts.set w0 none)[w]? = _
   split <;> exact List.getElem?_set_ne hw)
  subst this
  rw [h1] at q1
  cases q1
  exact ⟨z, rfl⟩
theorem Took.now (h : YTr B N Y m) {i p j : Nat} {d : Dd} (hP : PutAt Y B N i d p j) {g c s : Nat} {x : Int} {dg : Dd} (t : Took Y N m p j x g c s dg) : ∃ (w : Nat) (k : Ge) (a : Ta), (Y s).ts[w]? = some (some (.ge k, g)) ∧ k.ta = some a ∧ a.next = 3 := by
 obtain ⟨w, ⟨k, r1⟩, r2⟩ := t.run
 have k1 := t.sm
 have k2 := t.pc
 have k3 := t.cs
 have l1 := hP.live
 have f1 := ((h.fit (p + 1) (by omega)) j).1
 have e1 := (zAm f1).1
 have n1 : (Y (s + 1)).C.getD j 0 ≠ (Y s).C.getD j 0 := fun e => by
  rw [t.new, t.was] at e
  omega
 obtain ⟨z, hz⟩ := zEg (h.how s (by omega)) r1 r2 (fun e => n1 (by rw [e]))
 obtain ⟨a, u1, u2, _⟩ := zEU (h.all s (by omega)).ok r1 hP.lt (q := j) (fun e => n1 (by rw [hz]; exact e))
 exact ⟨w, k, a, r1, u1, u2⟩
end
end
section
open Go.RowKit
def dDo (row : List Int) (d : Dd) : Option (List Int) :=
 if d.kd = 0 then if d.ok = true then some (if d.e = 0 then d.x :: row else row ++ [d.x]) else some row
 else if d.ok = true then
  if row = [] then none
  else if d.e = 0 then if row.getD 0 0 = d.v then some (row.drop 1) else none
  else if row.getD (row.length - 1) 0 = d.v then some (row.take (row.length - 1)) else none
 else if row = [] then some row else none
def dRun : List Int → List Dd → Option (List Int)
 | row, [] => some row
 | row, d :: l => match dDo row d with
  | some r => dRun r l
  | none => none
def dTurn (d : Dd) : Dd := { d with e := 1 - d.e }
def dAns (row : List Int) (d : Dd) : Dd :=
 if 0 ≤ d.till then d else { d with ok := true, v := if d.kd = 1 ∧ row ≠ [] then (if d.e = 1 then row.getD (row.length - 1) 0 else row.getD 0 0) else 0, lo := 0, hi := 0 }
def LFree (l : List Dd) (D : Nat → Prop) (i : Nat) (d : Dd) : Prop := ¬ D i ∧ ∀ (k : Nat) (o : Dd), l[k]? = some o → D k ∨ ¬ dBef o d
inductive Lin (l : List Dd) : (Nat → Prop) → List Int → List Nat → Prop
 | nil {D : Nat → Prop} {row : List Int} (h : ∀ (i : Nat) (d : Dd), l[i]? = some d → 0 ≤ d.till → D i) : Lin l D row []
 | cons {D : Nat → Prop} {row r : List Int} {i : Nat} {d : Dd} {s : List Nat} (hd : l[i]? = some d) (hf : LFree l D i d) (hr : dDo row (dAns row d) = some r) (h : Lin l (fun j => D j ∨ j = i) r s) : Lin l D row (i :: s)
def oRun (l : List Dd) : List Int → List Nat → Option (List Int)
 | row, [] => some row
 | row, i :: s => match l[i]? with
  | some d => (dDo row (dAns row d)).bind (fun r => oRun l r s)
  | none => none
theorem zFn {l : List Dd} {row r : List Int} {i : Nat} {d : Dd} {s : List Nat} (hd : l[i]? = some d) (hr : dDo row (dAns row d) = some r) : oRun l row (i :: s) = oRun l r s := by
 rw [oRun, hd]
 show (dDo row (dAns row d)).bind _ = _
 rw [hr]
 rfl
structure Holds (l : List Dd) (D : Nat → Prop) (row : List Int) (s : List Nat) : Prop where
 nodup : s.Nodup
 new : ∀ i ∈ s, ¬ D i
 all : ∀ (i : Nat) (d : Dd), l[i]? = some d → 0 ≤ d.till → D i ∨ i ∈ s
 ahead : ∀ (p i k : Nat) (d o : Dd), s[p]? = some i → l[i]? = some d → l[k]? = some o → dBef o d → D k ∨ ∃ q, q < p ∧ s[q]? = some k
 run : ∃ r, oRun l row s = some r
theorem Lin.holds {l : List Dd} {D : Nat → Prop} {row : List Int} {s : List Nat} (h : Lin l D row s) : Holds l D row s := by
 induction h with
 | nil h => exact ⟨List.nodup_nil, (fun i hi => by cases hi), fun i d hd ht => .inl (h i d hd ht), (fun p i k d o hp => by simp at hp), ⟨_, rfl⟩⟩
 | cons hd hf hr h ih =>
  rename_i D row r i d s
  refine ⟨List.nodup_cons.2 ⟨fun hm => ih.new i hm (.inr rfl), ih.nodup⟩, fun j hj => ?_, fun j e he ht => ?_, fun p j k e o hp he ho hb => ?_, ?_⟩
  ·rcases List.mem_cons.1 hj with rfl | hj
   ·exact hf.1
   ·exact fun hD => ih.new j hj (.inl hD)
  ·rcases ih.all j e he ht with (h1 | rfl) | h1
   ·exact .inl h1
   ·exact .inr List.mem_cons_self
   ·exact .inr (List.mem_cons_of_mem _ h1)
  ·cases p with
   | zero =>
    rw [List.getElem?_cons_zero] at hp
    cases hp
    rw [hd] at he
    cases he
    rcases hf.2 k o ho with h1 | h1
    ·exact .inl h1
    ·exact absurd hb h1
   | succ p =>
    rw [List.getElem?_cons_succ] at hp
    rcases ih.ahead p j k e o hp he ho hb with (h1 | rfl) | ⟨q, hq, h1⟩
    ·exact .inl h1
    ·exact .inr ⟨0, by omega, rfl⟩
    ·exact .inr ⟨q + 1, by omega, by rw [List.getElem?_cons_succ]; exact h1⟩
  ·rw [zFn hd hr]
   exact ih.run
theorem Lin.same {l : List Dd} {D D' : Nat → Prop} {row : List Int} {s : List Nat} (h : Lin l D row s) (e : ∀ j, D j ↔ D' j) : Lin l D' row s := by
 induction h generalizing D' with
 | nil h => exact .nil (fun i d hd ht => (e i).1 (h i d hd ht))
 | cons hd hf hr h ih => exact .cons hd ⟨fun hh => hf.1 ((e _).2 hh), fun k o ho => (hf.2 k o ho).imp (e k).1 id⟩ hr (ih (fun j => or_congr (e j) Iff.rfl))
end
section
open Go.RowKit
structure It where
 i : Nat
 k : Int
 p : Nat
 x : Int
 tk : Option (Nat × Nat × Nat)
def It.ops (a : It) : List Nat := match a.tk with
 | none => [a.i]
 | some t => [a.i, t.1]
structure Its (bef : Nat → Nat → Prop) (I : List It) : Prop where
 pp : ∀ a ∈ I, ∀ b ∈ I, bef a.i b.i → a.k < b.k ∧ a.p < b.p
 pg : ∀ a ∈ I, ∀ b ∈ I, ∀ t, b.tk = some t → bef a.i t.1 → a.p < t.2.1
 gp : ∀ a ∈ I, ∀ b ∈ I, ∀ t, a.tk = some t → bef t.1 b.i → t.2.2 < b.p ∧ a.k < b.k
 gg : ∀ a ∈ I, ∀ b ∈ I, ∀ t u, a.tk = some t → b.tk = some u → bef t.1 u.1 → t.2.2 < u.2.1
 tm : ∀ a ∈ I, ∀ t, a.tk = some t → a.p < t.2.1 ∧ t.2.1 ≤ t.2.2
 own : ∀ a ∈ I, ∀ t, a.tk = some t → t.1 ≠ a.i
 one : ∀ a ∈ I, ∀ b ∈ I, ∀ o, o ∈ a.ops → o ∈ b.ops → a = b
 key : ∀ a ∈ I, ∀ b ∈ I, a.k = b.k → a = b
def TopS (I : List It) : Prop := ∀ a ∈ I, ∀ b ∈ I, ∀ t, a.tk = some t → b.p < t.2.1 → (∀ u, b.tk = some u → t.2.1 ≤ u.2.2) → b.k ≤ a.k
structure IsIt (l : List Dd) (a : It) : Prop where
 put : ∃ d, l[a.i]? = some d ∧ d.kd = 0 ∧ d.ok = true ∧ d.e = 1 ∧ d.x = a.x ∧ 0 ≤ d.till
 get : ∀ t, a.tk = some t → ∃ d, l[t.1]? = some d ∧ d.kd = 1 ∧ d.e = 1 ∧ (0 ≤ d.till → d.ok = true ∧ d.v = a.x)
structure Ordd (bef : Nat → Nat → Prop) (I : List It) (O : List Nat) : Prop where
 nodup : O.Nodup
 mem : ∀ o, o ∈ O ↔ ∃ a ∈ I, o ∈ a.ops
 ahead : O.Pairwise (fun a b => ¬ bef b a)
section
variable {bef : Nat → Nat → Prop} {I J A B : List It} {l : List Dd} {a b x : It} {o : Nat}
theorem It.ops_iff : o ∈ a.ops ↔ o = a.i ∨ ∃ t, a.tk = some t ∧ o = t.1 := by
 unfold It.ops
 cases h : a.tk with
 | none => simp
 | some t => simp
def It.early (c : Nat) (a : It) : Bool := match a.tk with
 | none => false
 | some u => decide (u.2.2 < c)
theorem Its.begun (h : Its bef I) (ha : a ∈ I) (hb : b ∈ I) {c : Nat} (he : ∃ u, a.tk = some u ∧ u.2.2 < c) (hl : c ≤ b.p) (o o' : Nat) (h1 : o ∈ a.ops) (h2 : o' ∈ b.ops) : ¬ bef o' o := by
 obtain ⟨u, hu, hu2⟩ := he
 obtain ⟨u1, u3⟩ := h.tm a ha u hu
 intro hbf
 rcases It.ops_iff.1 h1 with rfl | ⟨t, ht, rfl⟩
 ·rcases It.ops_iff.1 h2 with rfl | ⟨t', ht', rfl⟩
  ·have := (h.pp b hb a ha hbf).2
   omega
  ·have := (h.gp b hb a ha t' ht' hbf).1
   have := h.tm b hb t' ht'
   omega
 ·rw [hu] at ht
  cases ht
  rcases It.ops_iff.1 h2 with rfl | ⟨t', ht', rfl⟩
  ·have := h.pg b hb a ha u hu hbf
   omega
  ·have := h.gg b hb a ha t' u ht' hu hbf
   have := h.tm b hb t' ht'
   omega
end
end
section
open Go.RowKit
structure QRel (r : Nat → Nat → Prop) (I : List It) : Prop where
 pp : ∀ a ∈ I, ∀ b ∈ I, r a.i b.i → a.k < b.k ∧ a.p < b.p
 pg : ∀ a ∈ I, ∀ b ∈ I, ∀ t, b.tk = some t → (r a.i t.1 ↔ a.p < t.2.1)
 gp : ∀ a ∈ I, ∀ b ∈ I, ∀ t, a.tk = some t → r t.1 b.i → t.2.2 < b.p ∧ a.k < b.k
 gg : ∀ a ∈ I, ∀ b ∈ I, ∀ t u, a.tk = some t → b.tk = some u → (r t.1 u.1 ↔ t.2.1 < u.2.1)
 thru : ∀ a ∈ I, ∀ b ∈ I, ∀ c ∈ I, ∀ t, b.tk = some t → a.p < t.2.1 → r t.1 c.i → r a.i c.i
 tm : ∀ a ∈ I, ∀ t, a.tk = some t → a.p < t.2.1 ∧ t.2.1 ≤ t.2.2
 own : ∀ a ∈ I, ∀ t, a.tk = some t → t.1 ≠ a.i
 one : ∀ a ∈ I, ∀ b ∈ I, ∀ o, o ∈ a.ops → o ∈ b.ops → a = b
 key : ∀ a ∈ I, ∀ b ∈ I, a.k = b.k → a = b
def TopQ (I : List It) : Prop := ∀ a ∈ I, ∀ b ∈ I, ∀ t, a.tk = some t → b.p < t.2.1 → (∀ u, b.tk = some u → t.2.1 ≤ u.2.2) → a.k ≤ b.k
structure IsQt (l : List Dd) (a : It) : Prop where
 put : ∃ d, l[a.i]? = some d ∧ d.kd = 0 ∧ d.ok = true ∧ d.e = 1 ∧ d.x = a.x ∧ 0 ≤ d.till
 get : ∀ t, a.tk = some t → ∃ d, l[t.1]? = some d ∧ d.kd = 1 ∧ d.e = 0 ∧ (0 ≤ d.till → d.ok = true ∧ d.v = a.x)
section
variable {r : Nat → Nat → Prop} {I J : List It} {l : List Dd} {a x : It} {o : Nat}
theorem zDT : ∀ (O1 O2 : List Nat) (R R' : List Int), oRun l R O1 = some R' → oRun l R (O1 ++ O2) = oRun l R' O2
 | [], O2, R, R', hh => by cases hh; rfl
 | o :: O1, O2, R, R', hh => by
  rw [List.cons_append, oRun]
  rw [oRun] at hh
  cases hd : l[o]? with
  | none => rw [hd] at hh; cases hh
  | some d =>
   rw [hd] at hh
   have hh' : (dDo R (dAns R d)).bind (fun r => oRun l r O1) = some R' := hh
   show (dDo R (dAns R d)).bind (fun r => oRun l r (O1 ++ O2)) = _
   cases hq : dDo R (dAns R d) with
   | none => rw [hq] at hh'; cases hh'
   | some r =>
    rw [hq] at hh'
    exact zDT O1 O2 r R' hh'
theorem zEy (q : Nat → Prop) : ∀ O : List Nat, ∃ O1 O2, O = O1 ++ O2 ∧ (∀ o ∈ O1, ¬ q o) ∧ (O2 = [] ∨ ∃ o O3, O2 = o :: O3 ∧ q o)
 | [] => ⟨[], [], rfl, fun o h => (by cases h), .inl rfl⟩
 | o :: O => by
  by_cases hq : q o
  ·exact ⟨[], o :: O, rfl, fun o h => (by cases h), .inr ⟨o, O, rfl, hq⟩⟩
  ·obtain ⟨O1, O2, h1, h2, h3⟩ := zEy q O
   refine ⟨o :: O1, O2, by rw [h1]; rfl, fun o' h => ?_, h3⟩
   rcases List.mem_cons.1 h with rfl | h
   ·exact hq
   ·exact h2 o' h
def It.sees (a : It) : Nat := match a.tk with
 | none => 0
 | some t => t.2.1
end
end
section
open Go.RowKit
structure Em where
 i : Nat
 c : Nat
structure Ems (bef : Nat → Nat → Prop) (I : List It) (E : List Em) : Prop where
 pe : ∀ a ∈ I, ∀ e ∈ E, bef a.i e.i → a.p < e.c
 ge : ∀ a ∈ I, ∀ t, a.tk = some t → ∀ e ∈ E, bef t.1 e.i → t.2.2 < e.c
 ep : ∀ e ∈ E, ∀ a ∈ I, bef e.i a.i → e.c ≤ a.p
 eg : ∀ e ∈ E, ∀ a ∈ I, ∀ t, a.tk = some t → bef e.i t.1 → e.c < t.2.1
 ee : ∀ e ∈ E, ∀ f ∈ E, bef e.i f.i → e.c < f.c
 none : ∀ e ∈ E, ∀ a ∈ I, a.p < e.c → ∃ t, a.tk = some t ∧ t.2.2 < e.c
 new : ∀ e ∈ E, ∀ a ∈ I, e.i ∉ a.ops
structure Orde (bef : Nat → Nat → Prop) (l : List Dd) (M : Nat → Prop) (O : List Nat) : Prop where
 nodup : O.Nodup
 mem : ∀ o, o ∈ O ↔ M o
 ahead : O.Pairwise (fun a b => ¬ bef b a)
 run : ∃ F, oRun l [] O = some F
section
variable {bef : Nat → Nat → Prop} {I J : List It} {l : List Dd}
theorem Orde.one {M : Nat → Prop} {O : List Nat} (h : Orde bef l M O) (htr : ∀ a b c, bef a b → bef b c → bef a c) (hirr : ∀ a, ¬ bef a a) {n : Nat} (hn : ¬ M n) (hq : ∀ R O, oRun l R (n :: O) = oRun l R O) : ∃ O', Orde bef l (fun o => M o ∨ o = n) O' := by
 obtain ⟨O1, O2, e1, e2, e3⟩ := zEy (fun o => bef n o) O
 have hahead := h.ahead
 rw [e1, List.pairwise_append] at hahead
 obtain ⟨a1, a2, a3⟩ := hahead
 have hnod := h.nodup
 rw [e1, List.nodup_append] at hnod
 obtain ⟨n1, n2, n3⟩ := hnod
 have hno : n ∉ O := fun hm => hn ((h.mem n).1 hm)
 rw [e1, List.mem_append, not_or] at hno
 refine ⟨O1 ++ n :: O2, List.nodup_append.2 ⟨n1, List.nodup_cons.2 ⟨hno.2, n2⟩, fun o ho o' ho' => ?_⟩, fun o => ?_, List.pairwise_append.2 ⟨a1, List.pairwise_cons.2 ⟨fun o ho hb => ?_, a2⟩, fun o ho o' ho' => ?_⟩, ?_⟩
 ·rcases List.mem_cons.1 ho' with rfl | hm
  ·rintro rfl
   exact hno.1 ho
  ·exact n3 o ho o' hm
 ·rw [← h.mem, e1, List.mem_append, List.mem_append, List.mem_cons]
  constructor
  ·rintro (h | h | h)
   ·exact .inl (.inl h)
   ·exact .inr h
   ·exact .inl (.inr h)
  ·rintro ((h | h) | h)
   ·exact .inl h
   ·exact .inr (.inr h)
   ·exact .inr (.inl h)
 ·rcases e3 with e3 | ⟨o', O3, e3, hq'⟩
  ·rw [e3] at ho
   cases ho
  ·rw [e3] at a2 ho
   rcases List.mem_cons.1 ho with e | ho
   ·rw [e] at hb
    exact hirr _ (htr _ _ _ hb hq')
   ·exact (List.pairwise_cons.1 a2).1 _ ho (htr _ _ _ hb hq')
 ·rcases List.mem_cons.1 ho' with rfl | hm
  ·exact e2 o ho
  ·exact a3 o ho o' hm
 ·obtain ⟨F, hF⟩ := h.run
  rw [e1] at hF
  have : ∃ R, oRun l [] O1 = some R := by
   clear a1 a2 a3 n1 n2 n3 hno e1 e2 e3
   generalize ([] : List Int) = R0 at hF
   induction O1 generalizing R0 with
   | nil => exact ⟨R0, rfl⟩
   | cons o O1 ih =>
    rw [List.cons_append, oRun] at hF
    rw [oRun]
    cases hd : l[o]? with
    | none => rw [hd] at hF; cases hF
    | some d =>
     rw [hd] at hF
     have hF' : (dDo R0 (dAns R0 d)).bind (fun r => oRun l r (O1 ++ O2)) = some F := hF
     show ∃ R, (dDo R0 (dAns R0 d)).bind (fun r => oRun l r O1) = some R
     cases hx : dDo R0 (dAns R0 d) with
     | none => rw [hx] at hF'; cases hF'
     | some r =>
      rw [hx] at hF'
      exact ih r hF'
  obtain ⟨R, hR⟩ := this
  rw [zDT O1 O2 _ _ hR] at hF
  exact ⟨F, by rw [zDT O1 _ _ _ hR, hq]; exact hF⟩
theorem Orde.more (htr : ∀ a b c, bef a b → bef b c → bef a c) (hirr : ∀ a, ¬ bef a a) : ∀ (S : List Nat) {M : Nat → Prop} {O : List Nat}, Orde bef l M O → (∀ n ∈ S, ∀ R O, oRun l R (n :: O) = oRun l R O) → ∃ O', Orde bef l (fun o => M o ∨ o ∈ S) O'
 | [], M, O, h, _ => ⟨O, h.nodup, fun o => by rw [h.mem]; simp, h.ahead, h.run⟩
 | n :: S, M, O, h, hq => by
  obtain ⟨O', h'⟩ := Orde.more htr hirr S h (fun n hn => hq n (List.mem_cons_of_mem _ hn))
  by_cases hm : M n ∨ n ∈ S
  ·refine ⟨O', h'.nodup, fun o => ?_, h'.ahead, h'.run⟩
   rw [h'.mem, List.mem_cons]
   constructor
   ·rintro (h | h)
    ·exact .inl h
    ·exact .inr (.inr h)
   ·rintro (h | rfl | h)
    ·exact .inl h
    ·exact hm
    ·exact .inr h
  ·obtain ⟨O2, h2⟩ := h'.one htr hirr hm (hq n List.mem_cons_self)
   refine ⟨O2, h2.nodup, fun o => ?_, h2.ahead, h2.run⟩
   rw [h2.mem, List.mem_cons]
   constructor
   ·rintro ((h | h) | h)
    ·exact .inl h
    ·exact .inr (.inr h)
    ·exact .inr (.inl h)
   ·rintro (h | h | h)
    ·exact .inl (.inl h)
    ·exact .inr h
    ·exact .inl (.inr h)
def befL (l : List Dd) (i k : Nat) : Prop := ∃ d o, l[i]? = some d ∧ l[k]? = some o ∧ dBef d o
theorem zGy (h : ∀ (i : Nat) (d : Dd), l[i]? = some d → 0 ≤ d.till → d.fr ≤ d.till) (a : Nat) : ¬ befL l a a := by
 rintro ⟨d, o, p1, p2, p3, p4⟩
 rw [p1] at p2
 cases p2
 have := h a d p1 p3
 omega
theorem Orde.holds {M : Nat → Prop} {O : List Nat} (h : Orde (befL l) l M O) (hf : ∀ (i : Nat) (d : Dd), l[i]? = some d → 0 ≤ d.till → d.fr ≤ d.till) (hall : ∀ (i : Nat) (d : Dd), l[i]? = some d → 0 ≤ d.till → M i) : Holds l (fun _ => False) [] O := by
 refine ⟨h.nodup, fun _ _ hh => hh, fun i d hd ht => .inr ((h.mem i).2 (hall i d hd ht)), fun p i k d o hp hd ho hb => .inr ?_, h.run⟩
 obtain ⟨q, hq, hq2⟩ := List.getElem_of_mem ((h.mem k).2 (hall k o ho hb.1))
 have hp' := List.getElem?_eq_some_iff.1 hp
 obtain ⟨hpl, hp2⟩ := hp'
 refine ⟨q, ?_, by rw [List.getElem?_eq_getElem hq, hq2]⟩
 rcases Nat.lt_trichotomy q p with h1 | h1 | h1
 ·exact h1
 ·subst h1
  rw [hq2] at hp2
  subst hp2
  exact absurd ⟨o, d, ho, hd, hb⟩ (zGy hf k)
 ·have := List.pairwise_iff_getElem.1 h.ahead p q hpl hq h1
  rw [hp2, hq2] at this
  exact absurd ⟨o, d, ho, hd, hb⟩ this
end
end
section
open Go.RowKit
structure IsItem (Y : Nat → Yd) (B : YB) (N m : Nat) (a : It) (d : Dd) (j : Nat) : Prop where
 deed : (Y m).ds[a.i]? = some d
 kd : d.kd = 0
 ok : d.ok = true
 pm : a.p < m
 put : PutAt Y B N a.i d a.p j
 x : a.x = d.x
 k : a.k = pkey d.e d.lo d.hi j
 no : a.tk = none → (Y m).C.getD j 0 = (Y (a.p + 1)).C.getD j 0
 yes : ∀ t, a.tk = some t → ∃ dg, Took Y N m a.p j d.x t.1 t.2.1 t.2.2 dg
section
variable {B : YB} {N m : Nat} {Y : Nat → Yd}
theorem zGG (h : YTr B N Y m) {i : Nat} {d : Dd} (hd : (Y m).ds[i]? = some d) (hk : d.kd = 0) (ho : d.ok = true) : ∃ a j, a.i = i ∧ IsItem Y B N m a d j := by
 obtain ⟨p, j, hp, hP⟩ := (h.puts m (Nat.le_refl _)).done i d hd hk ho
 by_cases hs : (Y m).C.getD j 0 = (Y (p + 1)).C.getD j 0
 ·exact ⟨⟨i, pkey d.e d.lo d.hi j, p, d.x, none⟩, j, rfl, hd, hk, ho, hp, hP, rfl, rfl, fun _ => hs, fun t ht => by cases ht⟩
 ·obtain ⟨g, c, s, dg, ht⟩ := ((hP.there h hp (Nat.le_refl _)).resolve_left hs).took h hP
  exact ⟨⟨i, pkey d.e d.lo d.hi j, p, d.x, some (g, c, s)⟩, j, rfl, hd, hk, ho, hp, hP, rfl, rfl, fun hh => (by cases hh), fun t hh => by cases hh; exact ⟨dg, ht⟩⟩
theorem IsItem.word (h : YTr B N Y m) {a : It} {d : Dd} {j : Nat} (ha : IsItem Y B N m a d j) {c : Nat} (h1 : a.p < c) (h2 : ∀ t, a.tk = some t → c ≤ t.2.2) (hc : c ≤ m) : (Y c).C.getD j 0 = (Y (a.p + 1)).C.getD j 0 := by
 cases htk : a.tk with
 | none => exact h.stays ha.put.lt (c := m) (by omega) hc (Nat.le_refl _) (ha.no htk).symm
 | some t =>
  obtain ⟨dg, ht⟩ := ha.yes t htk
  have := ht.sm
  exact h.stays ha.put.lt (c := t.2.2) (by omega) (h2 t htk) (by omega) ht.was.symm
theorem IsItem.wkey (h : YTr B N Y m) {a : It} {d : Dd} {j : Nat} (ha : IsItem Y B N m a d j) {c : Nat} (h1 : a.p < c) (h2 : ∀ t, a.tk = some t → c ≤ t.2.2) (hc : c ≤ m) : wkey ((Y c).C.take N) j = a.k ∧ live ((Y c).C.take N) j := by
 have hw := ha.word h h1 h2 hc
 have e1 := ha.put.word
 have s1 := ha.put.st
 have g1 := ha.put.gen
 have x0 := ha.put.e0
 have x1 := ha.put.e1
 have hl := ha.put.live
 have e2 : ((Y c).C.take N).getD j 0 = (Y (a.p + 1)).C.getD j 0 := by rw [zCU ha.put.lt, hw]
 refine ⟨?_, by unfold live; rw [e2]; exact hl⟩
 show xkey _ _ = _
 rw [e2, ha.k]
 unfold xkey
 rw [show (Y (a.p + 1)).C.getD j 0 / 4 % 2 = d.e by omega, show (Y (a.p + 1)).C.getD j 0 / 65536 % 16777216 = d.lo by omega, show (Y (a.p + 1)).C.getD j 0 / 1099511627776 = d.hi by omega]
theorem zG1 (h : YTr B N Y m) {a b : It} {d d' : Dd} {j j' : Nat} (ha : IsItem Y B N m a d j) (hb : IsItem Y B N m b d' j') {g c s : Nat} {x : Int} {dg : Dd} (ht : Took Y N m a.p j x g c s dg) (hk : a.tk = some (g, c, s)) (h1 : b.p < c) (h2 : ∀ t, b.tk = some t → c ≤ t.2.2) :
  if dg.e = 0 then a.k ≤ b.k else b.k ≤ a.k := by
 have k1 := ht.cs
 have k2 := ht.sm
 obtain ⟨wa, _⟩ := ha.wkey h ht.pc (fun t htt => by rw [hk] at htt; cases htt; exact k1) (by omega)
 obtain ⟨wb, lb⟩ := hb.wkey h h1 h2 (by omega)
 rcases ht.isEnd with ⟨e, _⟩ | ⟨i, e1, e2, e3, e4⟩
 ·omega
 ·obtain rfl : i = j := by omega
  have hl : ((Y c).C.take N).length = N := by
   rw [List.length_take]
   have := (h.all c (by omega)).len
   have := h.hT
   omega
  have := e4 j' (by rw [hl]; exact hb.put.lt) lb
  rw [wa, wb] at this
  exact this
theorem dfr (h : YTr B N Y m) {i : Nat} {d : Dd} (hd : (Y m).ds[i]? = some d) : 0 ≤ d.till → d.fr < d.till := fun ht => ((h.all m (Nat.le_refl _)).ok.deed i d hd).2.2.2 (by omega) |>.1
theorem mv_lt (h : YTr B N Y m) {a b : Nat} (ha : a ≤ m) (hl : ((Y a).moves : Int) < (Y b).moves) : a < b := Nat.lt_of_not_le fun hba => by
 have := h.moves hba ha
 omega
end
end
section
open Go.RowKit
section
variable {B : YB} {N m : Nat} {Y : Nat → Yd}
theorem zD2 (h : YTr B N Y m) : ∃ I : List It, (∀ a ∈ I, ∃ d j, IsItem Y B N m a d j) ∧ (∀ (i : Nat) (d : Dd), (Y m).ds[i]? = some d → d.kd = 0 → d.ok = true → ∃ a ∈ I, a.i = i) ∧ ∀ a ∈ I, ∀ b ∈ I, a.i = b.i → a = b := by
 have hex : ∀ i : Nat, ∃ a : It, (∃ d, (Y m).ds[i]? = some d ∧ d.kd = 0 ∧ d.ok = true) → a.i = i ∧ ∃ d j, IsItem Y B N m a d j := fun i => by
  by_cases hq : ∃ d, (Y m).ds[i]? = some d ∧ d.kd = 0 ∧ d.ok = true
  ·obtain ⟨d, h1, h2, h3⟩ := hq
   obtain ⟨a, j, e, ha⟩ := zGG h h1 h2 h3
   exact ⟨a, fun _ => ⟨e, d, j, ha⟩⟩
  ·exact ⟨⟨0, 0, 0, 0, none⟩, fun hh => absurd hh hq⟩
 obtain ⟨f, hf⟩ := Classical.axiomOfChoice hex
 have hS : ∀ i, i ∈ (List.range (Y m).ds.length).filter (fun i => ((Y m).ds[i]?).any (fun d => decide (d.kd = 0) && d.ok)) ↔ ∃ d, (Y m).ds[i]? = some d ∧ d.kd = 0 ∧ d.ok = true := fun i => by
  rw [List.mem_filter, List.mem_range]
  constructor
  ·rintro ⟨h1, h2⟩
   rw [List.getElem?_eq_getElem h1] at h2 ⊢
   simp at h2
   exact ⟨_, rfl, h2.1, h2.2⟩
  ·rintro ⟨d, h1, h2, h3⟩
   refine ⟨(List.getElem?_eq_some_iff.1 h1).1, ?_⟩
   rw [h1]
   simp [h2, h3]
 refine ⟨_, fun a ha => ?_, fun i d h1 h2 h3 => ⟨f i, List.mem_map.2 ⟨i, (hS i).2 ⟨d, h1, h2, h3⟩, rfl⟩, (hf i ⟨d, h1, h2, h3⟩).1⟩, fun a ha b hb hab => ?_⟩
 ·obtain ⟨i, hi, rfl⟩ := List.mem_map.1 ha
  exact (hf i ((hS i).1 hi)).2
 ·obtain ⟨i, hi, rfl⟩ := List.mem_map.1 ha
  obtain ⟨i', hi', rfl⟩ := List.mem_map.1 hb
  have e1 := (hf i ((hS i).1 hi)).1
  have e2 := (hf i' ((hS i').1 hi')).1
  have : i = i' := by omega
  rw [this]
structure IsEm (Y : Nat → Yd) (N m : Nat) (e : Em) (d : Dd) : Prop where
 deed : (Y m).ds[e.i]? = some d
 kd : d.kd = 1
 ok : d.ok = false
 till : 0 ≤ d.till
 fr : d.fr < (Y e.c).moves
 le : ((Y e.c).moves : Int) ≤ d.till
 cm : e.c ≤ m
 none : ∀ j, j < N → ¬ (Y e.c).C.getD j 0 % 4 = 1
theorem em_of (h : YTr B N Y m) {i : Nat} {d : Dd} (hd : (Y m).ds[i]? = some d) (hk : d.kd = 1) (ho : d.ok = false) (ht : 0 ≤ d.till) : ∃ e : Em, e.i = i ∧ IsEm Y N m e d := by
 obtain ⟨f, c, b', h1, h2, h3, h4, h5, h6⟩ := ((h.gets m (Nat.le_refl _)).done i d hd hk (by omega)).no ho
 have m1 := h.moves h2 (by omega)
 have m2 := h.moves h3 h4
 refine ⟨⟨i, c⟩, rfl, hd, hk, ho, ht, by show d.fr < (Y c).moves; omega, by show ((Y c).moves : Int) ≤ _; omega, by show c ≤ m; omega, fun j hj hl => ?_⟩
 rcases h6 with ⟨_, hn⟩ | ⟨i', e1, _⟩
 ·refine hn j ?_ ?_
  ·rw [List.length_take]
   have := (h.all c (by omega)).len
   have := h.hT
   omega
  ·unfold live
   rw [zCU hj]
   exact hl
 ·omega
theorem ems_of (h : YTr B N Y m) {I : List It} {E : List Em} (hI : ∀ a ∈ I, ∃ d j, IsItem Y B N m a d j) (hE : ∀ e ∈ E, ∃ d, IsEm Y N m e d) : Ems (befL (Y m).ds) I E := by
 have tl : ∀ a d j, IsItem Y B N m a d j → ((Y a.p).moves : Int) = d.till ∧ d.fr < (Y a.p).moves := fun a d j pa => by
  have e := pa.put.till
  have := dfr h pa.deed (by omega)
  omega
 refine ⟨fun a ha e he hbf => ?_, fun a ha t ht e he hbf => ?_, fun e he a ha hbf => ?_, fun e he a ha t ht hbf => ?_, fun e he f hf hbf => ?_, fun e he a ha hlt => ?_, fun e he a ha hm => ?_⟩
 ·obtain ⟨d, j, pa⟩ := hI a ha
  obtain ⟨de, pe⟩ := hE e he
  obtain ⟨x, y, x1, x2, x3, x4⟩ := hbf
  rw [pa.deed] at x1
  rw [pe.deed] at x2
  cases x1
  cases x2
  have := tl a d j pa
  have := pe.fr
  exact mv_lt h (by have := pa.pm; omega) (by omega)
 ·obtain ⟨d, j, pa⟩ := hI a ha
  obtain ⟨de, pe⟩ := hE e he
  obtain ⟨dg, tk⟩ := pa.yes t ht
  obtain ⟨x, y, x1, x2, x3, x4⟩ := hbf
  rw [tk.deed] at x1
  rw [pe.deed] at x2
  cases x1
  cases x2
  have := pe.fr
  have := tk.sm
  rcases tk.out with q | ⟨_, q, _⟩
  ·omega
  ·exact mv_lt h (by omega) (by omega)
 ·obtain ⟨d, j, pa⟩ := hI a ha
  obtain ⟨de, pe⟩ := hE e he
  obtain ⟨x, y, x1, x2, x3, x4⟩ := hbf
  rw [pe.deed] at x1
  rw [pa.deed] at x2
  cases x1
  cases x2
  have := tl a d j pa
  have := pe.le
  exact Nat.le_of_lt (mv_lt h pe.cm (by omega))
 ·obtain ⟨d, j, pa⟩ := hI a ha
  obtain ⟨de, pe⟩ := hE e he
  obtain ⟨dg, tk⟩ := pa.yes t ht
  obtain ⟨x, y, x1, x2, x3, x4⟩ := hbf
  rw [pe.deed] at x1
  rw [tk.deed] at x2
  cases x1
  cases x2
  have := pe.le
  have := tk.fr
  exact mv_lt h pe.cm (by omega)
 ·obtain ⟨de, pe⟩ := hE e he
  obtain ⟨df, pf⟩ := hE f hf
  obtain ⟨x, y, x1, x2, x3, x4⟩ := hbf
  rw [pe.deed] at x1
  rw [pf.deed] at x2
  cases x1
  cases x2
  have := pe.le
  have := pf.fr
  exact mv_lt h pe.cm (by omega)
 ·obtain ⟨d, j, pa⟩ := hI a ha
  obtain ⟨de, pe⟩ := hE e he
  apply Classical.byContradiction
  intro hno
  have hw := pa.word h hlt (fun t ht => Nat.le_of_not_lt fun hh => hno ⟨t, ht, hh⟩) pe.cm
  exact pe.none j pa.put.lt (by rw [hw]; exact pa.put.live)
 ·obtain ⟨d, j, pa⟩ := hI a ha
  obtain ⟨de, pe⟩ := hE e he
  rcases It.ops_iff.1 hm with e1 | ⟨t, ht, e1⟩
  ·have q := pe.deed
   rw [e1, pa.deed] at q
   cases q
   have := pa.kd
   have := pe.kd
   omega
  ·obtain ⟨dg, tk⟩ := pa.yes t ht
   have q := tk.deed
   rw [← e1, pe.deed] at q
   cases q
   have := pe.till
   rcases tk.out with q | ⟨q, _⟩
   ·omega
   ·rw [pe.ok] at q
    cases q
theorem zCH (h : YTr B N Y m) {I : List It} (hI : ∀ a ∈ I, ∃ d j, IsItem Y B N m a d j) (hin : ∀ (i : Nat) (d : Dd), (Y m).ds[i]? = some d → d.kd = 0 → d.ok = true → ∃ a ∈ I, a.i = i) {g : Nat} {dg : Dd} (hd : (Y m).ds[g]? = some dg) (hk : dg.kd = 1) (ho : dg.ok = true) (ht : 0 ≤ dg.till) : ∃ a ∈ I, ∃ t, a.tk = some t ∧ t.1 = g := by
 obtain ⟨w, f, b', _, _, hb', _, hgot⟩ := ((h.gets m (Nat.le_refl _)).done g dg hd hk (by omega)).ok ho
 obtain ⟨c, s, j, i, p, d, hh⟩ := zIX h hb' hgot
 have k1 := hh.sb
 have k2 := hh.cs
 have k3 := hh.pc
 have hdm := h.over (show c ≤ m by omega) (Nat.le_refl _) hh.deed (.inl hh.ok)
 obtain ⟨a, ha, rfl⟩ := hin i d hdm hh.kd hh.ok
 obtain ⟨d', j', pa⟩ := hI a ha
 have q := pa.deed
 rw [hdm] at q
 cases q
 have hpp : a.p = p := by
  have e1 := pa.put.till
  have e2 := hh.put.till
  obtain ⟨w1, k1', r1, r2, r3⟩ := pa.put.run
  obtain ⟨w2, k2', r1', r2', r3'⟩ := hh.put.run
  have hpm := pa.pm
  rcases Nat.lt_trichotomy a.p p with hl | he | hl
  ·obtain ⟨_, _, _, _, d2, x5, _, x7, _⟩ := (h.all p (by omega)).ok.task w2 _ a.i r2'
   have hlat := (h.later (show a.p + 1 ≤ p by omega) (by omega))
   have hdone : (Y (a.p + 1)).ds[a.i]? = some d ∨ ∃ x, (Y (a.p + 1)).ds[a.i]? = some x ∧ x.till = -1 := by
    cases hx : (Y (a.p + 1)).ds[a.i]? with
    | none =>
     obtain ⟨_, _, _, _, d3, y5, _⟩ := (h.all a.p (by omega)).ok.task w1 _ a.i r2
     obtain ⟨d4, z1, _⟩ := (h.later (show a.p ≤ a.p + 1 by omega) (by omega)).deed a.i d3 y5
     rw [hx] at z1
     cases z1
    | some x =>
     by_cases hxt : x.till = -1
     ·exact .inr ⟨x, rfl, hxt⟩
     ·have := h.over (show a.p + 1 ≤ m by omega) (Nat.le_refl _) hx (.inr hxt)
      rw [hdm] at this
      cases this
      exact .inl rfl
   rcases hdone with hx | ⟨x, hx, hxt⟩
   ·have := h.over (show a.p + 1 ≤ p by omega) (by omega) hx (.inl hh.ok)
    rw [this] at x5
    cases x5
    omega
   ·obtain ⟨⟨w3, g1, g2, g3⟩, _⟩ := (h.all (a.p + 1) (by omega)).ok.deed a.i x hx
    obtain ⟨T, hT⟩ := g3 hxt
    obtain ⟨_, _, _, _, d3, y5, y6, _⟩ := (h.all a.p (by omega)).ok.task w1 _ a.i r2
    obtain ⟨d4, z1, z2, _⟩ := (h.later (show a.p ≤ a.p + 1 by omega) (by omega)).deed a.i d3 y5
    rw [hx] at z1
    cases z1
    have : w3 = w1 := by omega
    rw [this, r3] at hT
    cases hT
  ·exact he
  ·obtain ⟨_, _, _, _, d2, x5, _, x7, _⟩ := (h.all a.p (by omega)).ok.task w1 _ a.i r2
   have := h.over (show c ≤ m by omega) (Nat.le_refl _) hh.deed (.inl hh.ok)
   by_cases hca : c ≤ a.p
   ·have := h.over hca (by omega) hh.deed (.inl hh.ok)
    rw [this] at x5
    cases x5
    omega
   ·obtain ⟨_, _, _, _, d3, y5, y6, _⟩ := (h.all p (by omega)).ok.task w2 _ a.i r2'
    cases hx : (Y (p + 1)).ds[a.i]? with
    | none =>
     obtain ⟨d4, z1, _⟩ := (h.later (show p ≤ p + 1 by omega) (by omega)).deed a.i d3 y5
     rw [hx] at z1
     cases z1
    | some x =>
     by_cases hxt : x.till = -1
     ·obtain ⟨⟨w3, g1, g2, g3⟩, _⟩ := (h.all (p + 1) (by omega)).ok.deed a.i x hx
      obtain ⟨T, hT⟩ := g3 hxt
      obtain ⟨d4, z1, z2, _⟩ := (h.later (show p ≤ p + 1 by omega) (by omega)).deed a.i d3 y5
      rw [hx] at z1
      cases z1
      have : w3 = w2 := by omega
      rw [this, r3'] at hT
      cases hT
     ·have h4 := h.over (show p + 1 ≤ a.p by omega) (by omega) hx (.inr hxt)
      rw [h4] at x5
      cases x5
      exact absurd x7 hxt
 subst hpp
 have hjj : j' = j := by
  apply Classical.byContradiction
  intro hne
  have e1 := pa.put.rest j (fun e => hne e.symm)
  have l1 := hh.put.live
  have f1 := hh.put.free
  rw [e1] at l1
  exact f1 l1
 subst hjj
 have l1 := hh.put.live
 have ff := ((h.fit (a.p + 1) (by omega)) j').1
 have tw := (zAm ff).1
 have hnew : (Y (s + 1)).C.getD j' 0 = tkW ((Y (a.p + 1)).C.getD j' 0) := by rw [hh.new, hh.word]
 have hwas : (Y s).C.getD j' 0 = (Y (a.p + 1)).C.getD j' 0 := by rw [hh.was, hh.word]
 refine ⟨a, ha, ?_⟩
 cases htk : a.tk with
 | none =>
  have := h.stays hh.lt (a := a.p + 1) (b := s + 1) (c := m) (by omega) (by omega) (Nat.le_refl _) (pa.no htk).symm
  rw [hnew] at this
  omega
 | some t =>
  refine ⟨t, rfl, ?_⟩
  obtain ⟨dg', tk⟩ := pa.yes t htk
  have q1 := tk.sm
  have q2 := tk.pc
  have q3 := tk.cs
  have hss : t.2.2 = s := by
   rcases Nat.lt_trichotomy t.2.2 s with hl | he | hl
   ·have := h.stays hh.lt (a := t.2.2) (b := t.2.2 + 1) (c := s) (by omega) (by omega) (by omega) (by rw [tk.was, hwas])
    rw [tk.new, tk.was] at this
    omega
   ·exact he
   ·have := h.stays hh.lt (a := s) (b := s + 1) (c := t.2.2) (by omega) (by omega) (by omega) (by rw [tk.was, hwas])
    rw [hnew, hwas] at this
    omega
  obtain ⟨w1, ⟨k1', r1⟩, r2⟩ := tk.run
  obtain ⟨k2', r1'⟩ := hh.run
  rw [hss] at r1 r2
  have hw := zFJ (h.how s (by omega)) r2 hh.turn
  subst hw
  rw [r1] at r1'
  exact (Prod.mk.inj (Option.some.inj (Option.some.inj r1'))).2
end
end
section
open Go.RowKit
section
variable {B : YB} {N m : Nat} {Y : Nat → Yd}
def relQ (l : List Dd) (I : List It) (o d : Nat) : Prop :=
 befL l o d ∨ (∃ a ∈ I, ∃ b ∈ I, ∃ t, b.tk = some t ∧ o = a.i ∧ d = t.1 ∧ a.p < t.2.1) ∨ ∃ a ∈ I, ∃ b ∈ I, ∃ t u, a.tk = some t ∧ b.tk = some u ∧ o = t.1 ∧ d = u.1 ∧ t.2.1 < u.2.1
end
end
section
open Go.RowKit
section
variable {B : YB} {N m : Nat} {Y : Nat → Yd}
theorem zB7 (h : YTr B N Y m) {g : Nat} {dg : Dd} (hd : (Y m).ds[g]? = some dg) (hk : dg.kd = 1) (ho : dg.ok = true) (ht : 0 ≤ dg.till) :
  ∃ (i : Nat) (d : Dd), (Y m).ds[i]? = some d ∧ d.kd = 0 ∧ d.ok = true ∧ dg.v = d.x ∧ d.till < dg.till ∧
   ((∀ (i i' : Nat) (d d' : Dd), (Y m).ds[i]? = some d → (Y m).ds[i']? = some d' → d.kd = 0 → d'.kd = 0 → d.x = d'.x → i = i') → ∀ (g' : Nat) (dg' : Dd), (Y m).ds[g']? = some dg' → dg'.kd = 1 → dg'.ok = true → 0 ≤ dg'.till → dg'.v = dg.v → g' = g) := by
 obtain ⟨I, hI, hin, hu⟩ := zD2 h
 obtain ⟨a, ha, t, htk, rfl⟩ := zCH h hI hin hd hk ho ht
 obtain ⟨d, j, pa⟩ := hI a ha
 obtain ⟨dg', tk⟩ := pa.yes t htk
 have q := tk.deed
 rw [hd] at q
 cases q
 have k1 := tk.pc
 have k2 := tk.cs
 have k3 := tk.sm
 have e := pa.put.till
 have hmv := h.moves (show a.p ≤ t.2.2 by omega) (by omega)
 rcases tk.out with q | ⟨_, q, hv⟩
 ·omega
 refine ⟨a.i, d, pa.deed, pa.kd, pa.ok, hv, by omega, fun hx g' dg2 hd2 hk2 ho2 ht2 hv2 => ?_⟩
 obtain ⟨b, hb, u, huk, rfl⟩ := zCH h hI hin hd2 hk2 ho2 ht2
 obtain ⟨d2, j2, pb⟩ := hI b hb
 obtain ⟨dg3, tk2⟩ := pb.yes u huk
 have q2 := tk2.deed
 rw [hd2] at q2
 cases q2
 rcases tk2.out with q3 | ⟨_, _, hv3⟩
 ·omega
 have := hx b.i a.i d2 d pb.deed pa.deed pb.kd pa.kd (by rw [← hv3, hv2, hv])
 have := hu b hb a ha this
 subst this
 rw [htk] at huk
 cases huk
 rfl
theorem zEI (h : YTr B N Y m) (hrest : ∀ (g : Nat) (dg : Dd), (Y m).ds[g]? = some dg → dg.kd = 1 → 0 ≤ dg.till) {e i : Nat} {de d : Dd} (hde : (Y m).ds[e]? = some de) (hk : de.kd = 1) (ho : de.ok = false) (hd : (Y m).ds[i]? = some d) (hk' : d.kd = 0) (ho' : d.ok = true) (hb : dBef d de) :
  ∃ (k : Nat) (dk : Dd), (Y m).ds[k]? = some dk ∧ dk.kd = 1 ∧ dk.ok = true ∧ dk.v = d.x ∧ ¬ dBef de dk := by
 obtain ⟨a, j, rfl, pa⟩ := zGG h hd hk' ho'
 obtain ⟨em, rfl, pe⟩ := em_of h hde hk ho (hrest e de hde hk)
 have q := pa.deed
 have hE := ems_of h (I := [a]) (E := [em]) (fun b hb => by rw [List.mem_singleton.1 hb]; exact ⟨_, _, pa⟩) (fun f hf => by rw [List.mem_singleton.1 hf]; exact ⟨_, pe⟩)
 have ha := List.mem_singleton.2 (rfl : a = a)
 have hem := List.mem_singleton.2 (rfl : em = em)
 have hlt := hE.pe a ha em hem ⟨d, de, hd, hde, hb⟩
 obtain ⟨t, htk, hs⟩ := hE.none em hem a ha hlt
 obtain ⟨dg, tk⟩ := pa.yes t htk
 have h0 := hrest t.1 dg tk.deed tk.kd
 rcases tk.out with q | ⟨q1, q2, q3⟩
 ·omega
 ·refine ⟨t.1, dg, tk.deed, tk.kd, q1, q3, fun hbf => ?_⟩
  have r1 := pe.le
  have r2 := tk.fr
  have r3 := tk.cs
  have hmv := h.moves (show t.2.1 ≤ em.c by omega) pe.cm
  have := hbf.2
  omega
def dNear (e : Int) (d' d : Dd) : Prop := if d'.e = e then d.e ≠ e ∨ dBef d d' else d.e ≠ e ∧ dBef d' d
theorem zFf (h : YTr B N Y m) (hN : N < 1048576) {a b : It} {d d' : Dd} {j j' : Nat} (ha : IsItem Y B N m a d j) (hb : IsItem Y B N m b d' j') {t : Nat × Nat × Nat} {dg : Dd} (hk : a.tk = some t) (tk : Took Y N m a.p j d.x t.1 t.2.1 t.2.2 dg) (he : dg.e = 0 ∨ dg.e = 1) (hbf : dBef d' dg) (hl : ∀ u, b.tk = some u → t.2.1 ≤ u.2.2) :
  ¬ dNear dg.e d' d := by
 intro hn
 have hS := (h.all m (Nat.le_refl _)).sok
 have e1 := hb.put.till
 have f1 := tk.fr
 have hlt : b.p < t.2.1 := mv_lt h (by have := hb.pm; omega) (by have := hbf.2; omega)
 have htop := zG1 h ha hb tk hk hlt hl
 have sa := ha.put.st
 have sb := hb.put.st
 have ja := ha.put.lt
 have jb := hb.put.lt
 have x0 := ha.put.e0
 have x1 := ha.put.e1
 have y0 := hb.put.e0
 have y1 := hb.put.e1
 have o1 : dBef d d' → d.hi < d'.lo := fun hh => hS.order a.i b.i d d' ha.deed hb.deed ha.kd ha.ok hb.kd hb.ok hh.2
 have o2 : dBef d' d → d'.hi < d.lo := fun hh => hS.order b.i a.i d' d hb.deed ha.deed hb.kd hb.ok ha.kd ha.ok hh.2
 rw [ha.k, hb.k] at htop
 unfold pkey lkey at htop
 unfold dNear at hn
 rcases he with he | he
 ·rw [if_pos he] at htop
  rw [he] at hn
  by_cases h1 : d'.e = 0
  ·rw [if_pos h1] at hn htop
   rcases hn with hn | hn
   ·rw [if_neg hn] at htop
    omega
   ·have := o1 hn
    by_cases h2 : d.e = 0
    ·rw [if_pos h2] at htop
     omega
    ·rw [if_neg h2] at htop
     omega
  ·rw [if_neg h1] at hn htop
   have := o2 hn.2
   rw [if_neg hn.1] at htop
   omega
 ·rw [if_neg (by omega)] at htop
  rw [he] at hn
  by_cases h1 : d'.e = 1
  ·rw [if_pos h1] at hn
   rw [if_neg (by omega : ¬ d'.e = 0)] at htop
   rcases hn with hn | hn
   ·rw [if_pos (by omega : d.e = 0)] at htop
    omega
   ·have := o1 hn
    by_cases h2 : d.e = 0
    ·rw [if_pos h2] at htop
     omega
    ·rw [if_neg h2] at htop
     omega
  ·rw [if_neg h1] at hn
   rw [if_pos (by omega : d'.e = 0)] at htop
   have := o2 hn.2
   rw [if_pos (by omega : d.e = 0)] at htop
   omega
end
end
section
open Go.RowKit
def hadBy (v : Int) (d : Dd) : Prop := d.kd = 1 ∧ d.ok = true ∧ d.v = v
instance (v : Int) (d : Dd) : Decidable (hadBy v d) := inferInstanceAs (Decidable (_ ∧ _))
theorem YTr.callN {B : YB} {N m : Nat} {Yg : Nat → Yd} {Y : Yd} (h : YTr B N Yg m) (hY : Yg m = Y) {k : Nat} (take : Bool) {kd e x s : Int} (hk : kdI take = kd) (he : e = 0 ∨ e = 1) (x0 : 0 ≤ x) (x1 : x ≤ 18446744073709551615) (hq : Y.ts[k]? = some none) (hm : m + 1 < 1000000) :
  YTr B N (fun i => if i ≤ m then Yg i else Y.call k kd e x s (wkB B N k take e x s)) (m + 1) := by
 have hA := h.all m (Nat.le_refl _)
 have hf := h.fit m (Nat.le_refl _)
 rw [hY] at hA hf
 have hw : YHow B N Y (Y.call k kd e x s (wkB B N k take e x s)) := .call k take kd e x s hq he hk
 refine h.snoc (by rw [hY]; exact hw) (by
  rw [hY]
  exact hw.mv_of (fun w take' kd' e' x' s' he => by
   have e1 := congrArg Yd.ds he
   have e2 : (Y.ds ++ [(⟨(k : Int), kd, e, x, s, Y.moves, -1, false, 0, 0, 0⟩ : Dd)]) = Y.ds ++ [⟨(w : Int), kd', e', x', s', Y.moves, -1, false, 0, 0, 0⟩] := e1
   have e3 := List.append_cancel_left e2
   simp only [List.cons.injEq, Dd.mk.injEq, and_true] at e3
   rw [← e3.2.2.2.1]
   exact ⟨x0, x1⟩) h.cf h.hT hA.len hA.ok) hf hm
structure TkIs (l : List Dd) (v : Int) (r : Int) : Prop where
 is : (r = -1 ∧ ∀ d ∈ l, ¬ hadBy v d) ∨ ∃ (i : Nat) (d : Dd), r = i ∧ l[i]? = some d ∧ hadBy v d
def DOwn (l : List Dd) : Prop := ∀ (i i' : Nat) (d d' : Dd), l[i]? = some d → l[i']? = some d' → d.kd = 0 → d'.kd = 0 → d.x = d'.x → i = i'
section
variable {B : YB} {N m : Nat} {Y : Nat → Yd}
theorem zBP (h : YTr B N Y m) {i : Nat} {d : Dd} (hd : (Y m).ds[i]? = some d) (ho : d.ok = true) : 0 ≤ d.till := by
 have hA := (h.all m (Nat.le_refl _)).ok
 obtain ⟨⟨w, _, _, g3⟩, _, _, g6⟩ := hA.deed i d hd
 by_cases e : d.till = -1
 ·obtain ⟨T, hT⟩ := g3 e
  obtain ⟨_, _, _, _, d', k5, _, _, k8, _⟩ := hA.task w T i hT
  rw [hd] at k5
  cases k5
  rw [k8] at ho
  cases ho
 ·have h1 := (g6 e).1
  have h2 := (hA.deed i d hd).2.1
  omega
theorem zIF (h : YTr B N Y m) (hx : DOwn (Y m).ds) {g g' : Nat} {dg dg' : Dd} (hd : (Y m).ds[g]? = some dg) (hd' : (Y m).ds[g']? = some dg') {v : Int} (hb : hadBy v dg) (hb' : hadBy v dg') : g' = g := by
 obtain ⟨i, d, _, _, _, _, _, q⟩ := zB7 h hd hb.1 hb.2.1 (zBP h hd hb.2.1)
 exact q hx g' dg' hd' hb'.1 hb'.2.1 (zBP h hd' hb'.2.1) (by rw [hb.2.2, hb'.2.2])
theorem zEz (h : YTr B N Y m) (hx : DOwn (Y m).ds) {g : Nat} {dg : Dd} (hd : (Y m).ds[g]? = some dg) (hk : dg.kd = 1) (ho : dg.ok = true) :
  ∃ (i : Nat) (d : Dd), (Y m).ds[i]? = some d ∧ d.kd = 0 ∧ d.x = dg.v ∧ d.ok = true ∧ d.fr ≤ dg.till ∧ (∀ (i' : Nat) (d' : Dd), (Y m).ds[i']? = some d' → d'.kd = 0 → d'.x = dg.v → i' = i) ∧ ∀ r, TkIs (Y m).ds dg.v r → r = g := by
 obtain ⟨i, d, h1, h2, h3, h4, h5, _⟩ := zB7 h hd hk ho (zBP h hd ho)
 refine ⟨i, d, h1, h2, h4.symm, h3, ?_, fun i' d' h6 h7 h8 => hx i' i d' d h6 h1 h7 h2 (by rw [h8, h4]), fun r hr => ?_⟩
 ·have := dfr h h1 (zBP h h1 h3)
  omega
 ·rcases hr.is with ⟨_, q⟩ | ⟨i', d', rfl, h6, h7⟩
  ·exact absurd ⟨hk, ho, rfl⟩ (q dg (List.mem_of_getElem? hd))
  ·rw [zIF h hx hd h6 ⟨hk, ho, rfl⟩ h7]
theorem zDQ (h : YTr B N Y m) (hN : N < 1048576) (hx : DOwn (Y m).ds) {g io ip : Nat} {dg do' dp : Dd} (hg : (Y m).ds[g]? = some dg) (gk : dg.kd = 1) (go : dg.ok = true) (ge : dg.e = 0 ∨ dg.e = 1) (ho : (Y m).ds[io]? = some do') (ok : do'.kd = 0) (ov : do'.x = dg.v) (hp : (Y m).ds[ip]? = some dp) (pk : dp.kd = 0) (po : dp.ok = true) (hb : dBef dp dg) {r : Int} (hr : TkIs (Y m).ds dp.x r)
  (hk : (r < 0 ∧ ∀ (k : Nat) (dk : Dd), (Y m).ds[k]? = some dk → dk.kd = 1 → 0 ≤ dk.till) ∨ ∃ (k : Nat) (dk : Dd), r = k ∧ (Y m).ds[k]? = some dk ∧ dBef dg dk) : ¬ dNear dg.e dp do' := by
 obtain ⟨I, hI, hin, hu⟩ := zD2 h
 obtain ⟨a, ha, t, htk, rfl⟩ := zCH h hI hin hg gk go (zBP h hg go)
 obtain ⟨d, j, pa⟩ := hI a ha
 obtain ⟨dg2, tk⟩ := pa.yes t htk
 have q := tk.deed
 rw [hg] at q
 cases q
 have tout := tk.out
 have tt := zBP h hg go
 rcases tout with q | ⟨_, q2, q3⟩
 ·omega
 have ea : a.i = io := hx a.i io d do' pa.deed ho pa.kd ok (by rw [ov, q3])
 have pd := pa.deed
 rw [ea, ho] at pd
 cases pd
 obtain ⟨b, hbI, hbi⟩ := hin ip dp hp pk po
 obtain ⟨d2, j2, pb⟩ := hI b hbI
 have pd := pb.deed
 rw [hbi, hp] at pd
 cases pd
 have c1 := tk.cs
 have c2 := tk.sm
 refine zFf h hN pa pb htk tk ge hb (fun u hu2 => ?_)
 obtain ⟨du, tu⟩ := pb.yes u hu2
 have u1 := tu.cs
 have u2 := tu.sm
 rcases hk with ⟨r0, hrest⟩ | ⟨k, dk, rfl, hdk, hbf⟩
 ·exfalso
  rcases tu.out with q | ⟨p1, p2, p3⟩
  ·have := hrest u.1 du tu.deed tu.kd
   omega
  ·rcases hr.is with ⟨_, q⟩ | ⟨i', d', rfl, _⟩
   ·exact q du (List.mem_of_getElem? tu.deed) ⟨tu.kd, p1, p3⟩
   ·omega
 ·have hkh : hadBy dp.x dk := by
   rcases hr.is with ⟨q, _⟩ | ⟨i', d', q, h6, h7⟩
   ·omega
   ·obtain rfl : i' = k := by omega
    rw [hdk] at h6
    cases h6
    exact h7
  obtain ⟨b', hb', v, hv, hv1⟩ := zCH h hI hin hdk hkh.1 hkh.2.1 (zBP h hdk hkh.2.1)
  obtain ⟨d3, j3, pb'⟩ := hI b' hb'
  obtain ⟨dv, tv⟩ := pb'.yes v hv
  have q := tv.deed
  rw [hv1, hdk] at q
  cases q
  have tk0 := zBP h hdk hkh.2.1
  rcases tv.out with q | ⟨_, _, q5⟩
  ·omega
  have e1 := hx b'.i b.i d3 dp pb'.deed pb.deed pb'.kd pb.kd (by rw [← q5, hkh.2.2])
  have e2 := hu b' hb' b hbI e1
  subst e2
  rw [hu2] at hv
  cases hv
  have f1 := tv.fr
  have f2 := hbf.2
  have m1 := h.moves (show t.2.1 ≤ t.2.2 by omega) (by omega)
  have : t.2.1 < u.2.1 := mv_lt h (by omega) (by omega)
  omega
end
end
section
open Go.RowKit
structure TopRn (w : World) (r : Ending) (w' : World) (W : World) (l : List Thing) (yb ytb p c T : Nat) (s so : Int) (N : Nat) (S : List CM) (Yf : Nat → Yd) (An : List Int) (J : Nat → Nat) (g : Nat) (st : Int × Int × List CM) (n : Nat) : Prop where
 ret : r = .returned (pt yb)
 below : Below w.heap.size w W
 run : PRn W w' l ⟨yb, ytb, p, c, T, s, so, 1, T⟩ N S Yf An J g
 T1 : 1 ≤ T
 T4 : T ≤ 4
 s1 : 1 ≤ s
 s4 : s ≤ 4
 n16 : N ≤ 16
 eq : (T : Int) * s = N
 ok : TopOk T st n
 is : st.2.2 = S
 few : n ≤ 300
theorem rightC44 {t s so d : Int} (t1 : 1 ≤ t) (t4 : t ≤ 4) (s1 : 1 ≤ s) (s4 : s ≤ 4) (o0 : 0 ≤ so) (o4 : so ≤ 4) (d0 : 0 ≤ d) (d3 : d ≤ 3) : rightC t s so d = true := decide_eq_true ⟨by omega, by omega, by omega, by omega, by omega, by omega, by omega, by omega⟩
theorem zFj (a0 a1 a2 mode most : Int) (a5 : Option Addr) (cap : Nat) (V : List LM) (w : World) (hV : RowL w a5 cap V) (hl : V.length ≤ 300) (hm : mode = 0 ∨ mode = 1 ∨ mode = 2) :
  Calls Tryz.prog 29 #[.int .i64 a0, .int .i64 a1, .int .i64 a2, .int .i64 mode, .int .i64 most, .slice a5 V.length cap] w fun r w' => ∃ W l yb ytb p c T s so N S Yf An J g, TopRn w r w' W l yb ytb p c T s so N S Yf An J g (topS T mode most V) V.length ∧ (T : Int) = 1 + a0 % 4 := by
 have HV := zIa hV
 clear hV
 have HSC := zIa (zFg a0 a1 a2 mode most a5 cap V w HV.out hl hm)
 obtain ⟨t, ht⟩ : ∃ t, 1 + a0 % 4 = t := ⟨_, rfl⟩
 obtain ⟨s, hs⟩ : ∃ s, 1 + a1 % 4 = s := ⟨_, rfl⟩
 obtain ⟨so, hso⟩ : ∃ so, wrap64 ((IntKind.u64.wrap a2).tmod 5) = so := ⟨_, rfl⟩
 have ho := src5 a2
 rw [ht, hs, hso] at HSC
 rw [hso] at ho
 rw [ht]
 have hR := zIa (rightC44 (t := t) (s := s) (so := so) (d := 1) (by omega) (by omega) (by omega) (by omega) ho.1 ho.2 (by decide) (by decide))
 have HOK := zIa (TopOk.of (T := t) mode most (by omega) (by omega) V (by omega))
 have HTS := zIa (show 1 ≤ t ∧ t ≤ 4 ∧ 1 ≤ s ∧ s ≤ 4 by omega)
 obtain ⟨S, hS⟩ : ∃ S, (topS t mode most V).2.2 = S := ⟨_, rfl⟩
 rw [hS] at HSC
 have HSE := zIa hS
 have HSG := zIa (hS ▸ HOK.out.right)
 have hSl : S.length ≤ 300 := by have h := HOK.out.len; rw [hS] at h; omega
 have HL := zIa hl
 clear ht hs hso ho hS hl
 go_enter Tryz.func29, Tryz.ntmps29
 go_wp2_with fail
 refine HSC.out.mono ?_
 rintro r w1 ⟨A1, cp1, rfl, hb1, hrow⟩
 have HB1 := zIa (zAA hb1 (.cells #[.int .i64 t, .int .i64 s, .int .i64 so, .int .i64 1, .slice A1 S.length cp1] 29))
 have HI := zIa ((IsAt.own hrow).later (zAA (Below.refl _ _) (.cells #[.int .i64 t, .int .i64 s, .int .i64 so, .int .i64 1, .slice A1 S.length cp1] 29)))
 clear hb1 hrow HSC
 go_wp2_with fail
 refine (zDE t s so 1 A1 cp1 S _ HI.out (fun m hm => (HSG.out m hm).2) (by omega)).mono ?_
 rintro r w3 ⟨vE, eE, rfl, hb3, hE⟩
 obtain ⟨rfl, ho⟩ := hE.yes hR.out (by omega) (fun m hm => (HSG.out m hm).1)
 obtain ⟨Ab, cpb, rfl⟩ := zAK ho
 have HB3 := zIa (zAB HB1.out hb3)
 have HIB := zIa (IsAt.own ho)
 have hcb := zBd ho
 have HBY := zIa (zC4 hR.out (fun m hm => (HSG.out m hm).1))
 have hlen : ([t, s, so, 1] ++ encs S).length ≤ 1000000 := by
  have := zCE S
  rw [List.length_append]
  show 4 + _ ≤ _
  omega
 clear hb3 ho hE HB1 HI
 obtain ⟨lb, hlb⟩ : ∃ lb, [t, s, so, 1] ++ encs S = lb := ⟨_, rfl⟩
 rw [hlb] at hcb hlen HIB HBY ⊢
 have HLB := zIa hlb
 clear hlb
 go_wp2_with fail
 refine (zCw Ab lb cpb w3 HIB.out HBY.out hcb hlen).mono ?_
 rintro r w4 (⟨w5, v', n', e', hD', he', rfl, hb⟩ | ⟨T, s', so', d', N, ms', W, lx, yb, ytb, p, c, Yf, An, J, g, hP⟩)
 ·exact absurd (hD'.yes HLB.out.symm hR.out HSG.out (by omega)).1 he'
 ·obtain ⟨h1, h2, h3, h4, h5, rfl, h7, h8⟩ := hP
  have e1 := HLB.out.trans h1
  simp only [List.cons_append, List.nil_append, List.cons.injEq] at e1
  obtain ⟨rfl, rfl, rfl, rfl, e6⟩ := e1
  obtain rfl := zDc HSG.out h2 e6
  have HP := zIa h8
  have HB4 := zIa (zAB HB3.out h7)
  have HLY := zIa h5
  clear h1 h2 h3 h4 h5 h7 h8 e6 HB3 HIB HBY
  go_wp2_with fail
  go_ret
  refine ⟨W, lx, yb, ytb, p, c, T, s, so, N, S, Yf, An, J, g, ⟨rfl, HB4.out, HP.out, by have := HTS.out; omega, by have := HTS.out; omega, by have := HTS.out; omega, by have := HTS.out; omega, ?_, HLY.out.eq, HOK.out, HSE.out, HL.out⟩, rfl⟩
  have h1 := HLY.out.eq
  have h2 : (T : Int) * s ≤ 4 * 4 := Int.mul_le_mul (by have := HTS.out; omega) (by have := HTS.out; omega) (by have := HTS.out; omega) (by omega)
  omega
end
section
open Go.RowKit
def BA : YB := ⟨0, 0, 0, 0, (2 : Nat), 2, 0, 0, 2⟩
def YA : Yd := ((yd0 4 2).call 0 0 1 5 0 (wkB BA 4 0 false 1 5 0)).call 1 0 0 6 0 (wkB BA 4 1 false 0 6 0)
theorem lA_8 : (lookF BA 4 (fun _ => 0) YA 8).1.ts = [none, none] ∧ (lookF BA 4 (fun _ => 0) YA 8).2 = 8 ∧ (lookF BA 4 (fun _ => 0) YA 8).1.moves = 10 ∧ ∃ d0 d1, (lookF BA 4 (fun _ => 0) YA 8).1.ds = [d0, d1] ∧ (d0.kd = 0 ∧ d0.e = 1 ∧ d0.x = 5 ∧ d0.ok = true ∧ d0.till = 8) ∧ (d1.kd = 0 ∧ d1.e = 0 ∧ d1.x = 6 ∧ d1.ok = true ∧ d1.till = 9) :=
 ⟨rfl, rfl, rfl, _, _, rfl, ⟨rfl, rfl, rfl, rfl, rfl⟩, ⟨rfl, rfl, rfl, rfl, rfl⟩⟩
theorem lA_ts : ∀ j, j < 8 → ∃ (a : Option (Wk × Nat)) (k : Pu) (i : Nat), (lookF BA 4 (fun _ => 0) YA j).1.ts = [a, some (.pu k, i)] ∧ ∀ T i', a = some (T, i') → ∃ k', T = .pu k'
 | 0, _ => ⟨_, _, _, rfl, fun T i' h => by cases h; exact ⟨_, rfl⟩⟩
 | 1, _ => ⟨_, _, _, rfl, fun T i' h => by cases h; exact ⟨_, rfl⟩⟩
 | 2, _ => ⟨_, _, _, rfl, fun T i' h => by cases h; exact ⟨_, rfl⟩⟩
 | 3, _ => ⟨_, _, _, rfl, fun T i' h => by cases h; exact ⟨_, rfl⟩⟩
 | 4, _ => ⟨_, _, _, rfl, fun T i' h => by cases h; exact ⟨_, rfl⟩⟩
 | 5, _ => ⟨_, _, _, rfl, fun T i' h => by cases h; exact ⟨_, rfl⟩⟩
 | 6, _ => ⟨_, _, _, rfl, fun T i' h => by cases h; exact ⟨_, rfl⟩⟩
 | 7, _ => ⟨_, _, _, rfl, fun T i' h => by cases h⟩
 | j + 8, h => by omega
theorem finA {j s : Nat} {Y : Yd} (h : Tick BA 4 YA j Y s) (hi : ∀ k, k < 2 → Y.ts[k]? = some none) : s = 8 ∧ Y = (lookF BA 4 (fun _ => 0) YA 8).1 := by
 have h8 : ∀ a, a ∈ (lookF BA 4 (fun _ => 0) YA 8).1.ts → a = none := fun a ha => by
  rw [lA_8.1] at ha
  simpa using ha
 have hst := zCj h8
 have hl := h.look (z := fun _ => 0) (fun j T i z' hk _ => by
  rcases Nat.lt_or_ge j 8 with hj | hj
  ·obtain ⟨a, k, q, e, hp⟩ := lA_ts j hj
   rw [e] at hk
   rcases (show j % 2 = 0 ∨ j % 2 = 1 by omega) with e2 | e2
   ·have hk' : [a, some (Wk.pu k, q)][j % 2]? = some (some (T, i)) := hk
    rw [e2] at hk'
    have hk2 : a = some (T, i) := by simpa using hk'
    obtain ⟨k', rfl⟩ := hp T i hk2
    rfl
   ·have hk' : [a, some (Wk.pu k, q)][j % 2]? = some (some (T, i)) := hk
    rw [e2] at hk'
    cases hk'
    rfl
  ·obtain ⟨k, rfl⟩ : ∃ k, j = 8 + k := ⟨j - 8, by omega⟩
   rw [hst] at hk
   have := h8 _ (List.mem_of_getElem? hk)
   cases this)
 rcases Nat.lt_or_ge j 8 with hj | hj
 ·obtain ⟨a, k, q, e, _⟩ := lA_ts j hj
  rw [hl] at e
  have := hi 1 (by decide)
  have e' : Y.ts = _ := e
  rw [e'] at this
  cases this
 ·obtain ⟨k, rfl⟩ : ∃ k, j = 8 + k := ⟨j - 8, by omega⟩
  rw [hst] at hl
  exact ⟨(congrArg Prod.snd hl).symm.trans lA_8.2.1, (congrArg Prod.fst hl).symm⟩
theorem zID {B : YB} {N j s : Nat} {Y0 Y : Yd} (h : Tick B N Y0 j Y s) : Y.ds.length = Y0.ds.length := by
 induction h with
 | zero => rfl
 | skip h hn ih => exact ih
 | @step j Y s h T i z hk ha ih =>
  rw [← ih]
  show (if _ then Y.ds else Y.ds.modify i _).length = _
  split
  ·rfl
  ·rw [List.length_modify]
theorem yA_of {yb ytb p c : Nat} {Yf : Nat → Yd} {An : List Int} (h : PTr ⟨yb, ytb, p, c, (2 : Nat), 2, 0, 0, 2⟩ 4 [⟨0, 0, 0, 1, 5, 0, 0⟩, ⟨0, 1, 0, 0, 6, 0, 0⟩] Yf An) : Yf 2 = YA := by
 obtain ⟨a, ha⟩ : ∃ a, An[0]? = some a := ⟨_, List.getElem?_eq_getElem (by rw [h.len]; decide)⟩
 obtain ⟨a', ha'⟩ : ∃ a, An[1]? = some a := ⟨_, List.getElem?_eq_getElem (by rw [h.len]; decide)⟩
 have h1 := h.at' 0 _ a rfl ha
 have h2 := h.at' 1 _ a' rfl ha'
 have hz : Yf 0 = yd0 4 2 := h.tr.zero
 rw [hz] at h1
 have e1 := (zEX (k := 0) (e := 1) (x := 5) h1 (by show (0 : Int) < (2 : Nat); decide) (.inr rfl) rfl).2
 have h2' : PDo _ 4 ⟨0, 1, 0, 0, 6, 0, 0⟩ (Yf 1) (Yf 2) a' := h2
 have e1' : Yf 1 = _ := e1
 rw [e1'] at h2'
 exact (zEX (k := 1) (e := 0) (x := 6) h2' (by show (1 : Int) < (2 : Nat); decide) (.inl rfl) rfl).2
theorem aliveV {B : YB} {Yg : Nat → Yd} {m : Nat} (hs : B.s = 2) (ht : YTr B 4 Yg m) {n0 : Nat} (hn0 : n0 < m) (h0 : Yg n0 = (lookF BA 4 (fun _ => 0) YA 8).1) {T0 : Wk} (h1 : Yg (n0 + 1) = (Yg n0).call 0 1 0 0 0 T0) (hl : (Yg m).ds.length = 3) (hi : ∀ k, k < B.T → (Yg m).ts[k]? = some none) :
  ∃ d0 d1 d2, (Yg m).ds = [d0, d1, d2] ∧ d2.ok = true ∧ d2.v = 6 := by
 obtain ⟨_, _, hmv, d0, d1, hds, p0, p1⟩ := lA_8
 have hA := (ht.all m (Nat.le_refl _)).ok
 have L0 := ht.later (a := n0) (b := m) (by omega) (Nat.le_refl _)
 have L1 := ht.later (a := n0 + 1) (b := m) (by omega) (Nat.le_refl _)
 have g0 : (Yg m).ds[0]? = some d0 := by
  obtain ⟨d', a, _, _, _, _, _, _, b⟩ := L0.deed 0 d0 (by rw [h0, hds]; rfl)
  rw [b (by omega)] at a
  exact a
 have g1 : (Yg m).ds[1]? = some d1 := by
  obtain ⟨d', a, _, _, _, _, _, _, b⟩ := L0.deed 1 d1 (by rw [h0, hds]; rfl)
  rw [b (by omega)] at a
  exact a
 obtain ⟨d2, g2, _, k2, e2, _, _, f2, _⟩ := L1.deed 2 ⟨(0 : Nat), 1, 0, 0, 0, (Yg n0).moves, -1, false, 0, 0, 0⟩ (by
  rw [h1]
  show ((Yg n0).ds ++ [_])[2]? = _
  rw [h0, hds]
  rfl)
 have k2' : d2.kd = 1 := k2
 have e2' : d2.e = 0 := e2
 have f2' : d2.fr = 10 := by
  rw [f2]
  show ((Yg n0).moves : Int) = 10
  rw [h0, hmv]
  rfl
 have over : ∀ (i : Nat) (d : Dd), (Yg m).ds[i]? = some d → 0 ≤ d.till := fun i d hd => by
  obtain ⟨⟨w, _, hw, g3⟩, q0, _, g6⟩ := hA.deed i d hd
  by_cases e : d.till = -1
  ·obtain ⟨T, hT⟩ := g3 e
   rw [hi w hw] at hT
   cases hT
  ·have := (g6 e).1
   omega
 have hall : ∀ (i : Nat) (d : Dd), (Yg m).ds[i]? = some d → (i = 0 ∧ d = d0) ∨ (i = 1 ∧ d = d1) ∨ (i = 2 ∧ d = d2) := fun i d hd => by
  have hlt := (List.getElem?_eq_some_iff.1 hd).1
  rw [hl] at hlt
  match i, hlt, hd with
  | 0, _, hd => rw [g0] at hd; cases hd; exact .inl ⟨rfl, rfl⟩
  | 1, _, hd => rw [g1] at hd; cases hd; exact .inr (.inl ⟨rfl, rfl⟩)
  | 2, _, hd => rw [g2] at hd; cases hd; exact .inr (.inr ⟨rfl, rfl⟩)
 have hx : DOwn (Yg m).ds := fun i i' d d' q q' r r' e => by
  rcases hall i d q with ⟨rfl, rfl⟩ | ⟨rfl, rfl⟩ | ⟨rfl, rfl⟩ <;> rcases hall i' d' q' with ⟨rfl, rfl⟩ | ⟨rfl, rfl⟩ | ⟨rfl, rfl⟩ <;> omega
 have b0 : dBef d0 d2 := ⟨by omega, by omega⟩
 have b1 : dBef d1 d2 := ⟨by omega, by omega⟩
 have ok2 : d2.ok = true := by
  cases hok : d2.ok with
  | true => rfl
  | false =>
   obtain ⟨k, dk, q1, q2, q3, q4, q5⟩ := zEI ht (fun g dg hg _ => over g dg hg) g2 k2' hok g1 p1.1 p1.2.2.2.1 b1
   rcases hall k dk q1 with ⟨_, rfl⟩ | ⟨_, rfl⟩ | ⟨_, rfl⟩
   ·omega
   ·omega
   ·rw [hok] at q3
    cases q3
 refine ⟨d0, d1, d2, ?_, ok2, ?_⟩
 ·refine List.ext_getElem? (fun i => ?_)
  rcases Nat.lt_or_ge i 3 with h | h
  ·match i, h with
   | 0, _ => exact g0
   | 1, _ => exact g1
   | 2, _ => exact g2
  ·rw [List.getElem?_eq_none (by omega), List.getElem?_eq_none (by exact h)]
 ·obtain ⟨i, d, q1, q2, _, q4, _⟩ := zB7 ht g2 k2' ok2 (over 2 d2 g2)
  rcases hall i d q1 with ⟨rfl, rfl⟩ | ⟨rfl, rfl⟩ | ⟨_, rfl⟩
  ·exfalso
   refine zDQ ht (by decide) hx g2 k2' ok2 (.inl e2') g0 p0.1 q4.symm g1 p1.1 p1.2.2.2.1 b1 (r := -1) ⟨.inl ⟨rfl, fun d hd hh => ?_⟩⟩ (.inl ⟨by decide, fun k dk hk _ => over k dk hk⟩) ?_
   ·obtain ⟨i, hi2⟩ := List.mem_iff_getElem?.1 hd
    have h1 := hh.1
    have h2 := hh.2.2
    rcases hall i d hi2 with ⟨_, rfl⟩ | ⟨_, rfl⟩ | ⟨_, rfl⟩ <;> omega
   ·unfold dNear
    rw [e2', if_pos p1.2.1]
    left
    omega
  ·omega
  ·omega
theorem zBh (w : World) : Calls Tryz.prog 28 #[] w fun r w' => r = .returned (.bool true) ∧ Below w.heap.size w w' := by
 have hn1 := zAA (Below.refl w.heap.size w) (.cells (flatM [⟨0, 0, 0, 1, 5, 0, 0⟩, ⟨0, 1, 0, 0, 6, 0, 0⟩]).toArray 39)
 have hn2 := zAA (Below.refl (w.alloc (.cells (flatM [⟨0, 0, 0, 1, 5, 0, 0⟩, ⟨0, 1, 0, 0, 6, 0, 0⟩]).toArray 39)).heap.size _) (.cells #[.int .i64 2, .int .i64 2, .int .i64 0, .int .i64 0, .slice (some ⟨w.heap.size, 0, none⟩) 2 2] 29)
 have hI : IsAt (w.alloc (.cells (flatM [⟨0, 0, 0, 1, 5, 0, 0⟩, ⟨0, 1, 0, 0, 6, 0, 0⟩]).toArray 39)) (some ⟨w.heap.size, 0, none⟩) (flatM [⟨0, 0, 0, 1, 5, 0, 0⟩, ⟨0, 1, 0, 0, 6, 0, 0⟩]) := fun _ => ⟨w.heap.size, 0, rfl, by simp, fun j u hj => by
  rw [Nat.zero_add]
  exact (IsObj.made w (flatM [⟨0, 0, 0, 1, 5, 0, 0⟩, ⟨0, 1, 0, 0, 6, 0, 0⟩]) 39).at' j u hj⟩
 have HI := zIa (hI.later hn2)
 have HB := zIa (zAB hn1 hn2)
 clear hn1 hn2 hI
 have hg : ∀ m ∈ ([⟨0, 0, 0, 1, 5, 0, 0⟩, ⟨0, 1, 0, 0, 6, 0, 0⟩] : List CM), m.Good := fun m hm => by
  simp only [List.mem_cons, List.not_mem_nil, or_false] at hm
  rcases hm with rfl | rfl
  ·exact ⟨.inl ⟨rfl, by decide, by decide, rfl, .inr rfl, .inl ⟨rfl, rfl⟩⟩, by decide, by decide⟩
  ·exact ⟨.inl ⟨rfl, by decide, by decide, rfl, .inl rfl, .inl ⟨rfl, rfl⟩⟩, by decide, by decide⟩
 have HG := zIa hg
 clear hg
 go_enter Tryz.func28, Tryz.ntmps28
 go_wp2_with fail
 refine (zDE 2 2 0 0 (some ⟨w.heap.size, 0, none⟩) 2 [⟨0, 0, 0, 1, 5, 0, 0⟩, ⟨0, 1, 0, 0, 6, 0, 0⟩] _ HI.out (fun m hm => (HG.out m hm).2) (by decide)).mono ?_
 rintro r w3 ⟨vE, eE, rfl, hb3, hE⟩
 have hR : rightC 2 2 0 0 = true := by decide
 obtain ⟨rfl, ho⟩ := hE.yes hR (by decide) (fun m hm => (HG.out m hm).1)
 obtain ⟨Ab, cpb, rfl⟩ := zAK ho
 have HB3 := zIa (zAB HB.out hb3)
 have HIB := zIa (IsAt.own ho)
 have hcb := zBd ho
 have HBY := zIa (zC4 hR (fun m hm => (HG.out m hm).1))
 have HRR := zIa hR
 obtain ⟨lb, hlb⟩ : ∃ lb, [2, 2, 0, 0] ++ encs [⟨0, 0, 0, 1, 5, 0, 0⟩, ⟨0, 1, 0, 0, 6, 0, 0⟩] = lb := ⟨_, rfl⟩
 have hlen : lb.length ≤ 1000000 := by rw [← hlb]; decide
 rw [hlb] at hcb HIB HBY ⊢
 have HLB := zIa hlb
 clear hb3 ho hE hR hlb HB HI
 go_wp2_with fail
 refine (zCw Ab lb cpb w3 HIB.out HBY.out hcb hlen).mono ?_
 rintro r w4 (⟨w5, v', n', e', hD', he', rfl, hb⟩ | ⟨T, s', so', d', N, ms', W, lx, yb, ytb, p, c, Yf, An, J, g, hP⟩)
 ·exact absurd (hD'.yes HLB.out.symm HRR.out HG.out (by decide)).1 he'
 obtain ⟨h1, h2, h3, h4, h5, rfl, h7, h8⟩ := hP
 have e1 := HLB.out.trans h1
 simp only [List.cons_append, List.nil_append, List.cons.injEq] at e1
 obtain ⟨e2, rfl, rfl, rfl, e6⟩ := e1
 obtain rfl : T = 2 := by omega
 obtain rfl : N = 4 := by have := h5.eq; omega
 obtain rfl := zDc HG.out h2 e6
 have HP := zIa h8
 have HB4 := zIa (zAB HB3.out h7)
 clear h1 h2 h3 h4 h5 h7 h8 e6 e2 HB3 HIB HBY hcb hlen
 simp only [List.length_cons, List.length_nil]
 go_wp2_with fail
 refine (zDh (n := 2) HP.out.yd HP.out.tr.tr (by decide) (by show 2 ≤ 4; decide) (by decide) (by show (2 : Int) ≤ 4; decide) (by show (0 : Int) ≤ 3; decide)).mono ?_
 rintro r w6 ⟨s, j, l', Y', J', Yg, rfl, hF⟩
 obtain ⟨hs, hY8⟩ := finA (j := j) (s := s) (Y := Y') (by have h := hF.tick.like (B' := BA) ⟨rfl, rfl, rfl, rfl, rfl⟩; rw [yA_of HP.out.tr] at h; exact h) (fun k hk => hF.idle k hk)
 subst hs
 have HF := zIa hF
 have HY8 := zIa hY8
 clear hF hY8 HP
 go_wp2_with fail
 refine (HF.out.yd.call (by decide) 0 (by show 0 < 2; decide) true (kd := 1) rfl 0 0 0 (.inl rfl) (by decide) (by decide)).mono ?_
 rintro r w7 ⟨l7, J7, Y7, hd7, hg7, h7⟩
 rcases h7 with ⟨_, _, a, ha⟩ | ⟨rfl, hq, rfl⟩
 ·have := HF.out.idle 0 (by show 0 < 2; decide)
  rw [this] at ha
  cases ha
 have htr7 := HF.out.tr.callN HF.out.at' (k := 0) true (kd := 1) (e := 0) (x := 0) (s := 0) rfl (.inl rfl) (by decide) (by decide) hq (by decide)
 have HT7 := zIa htr7
 have HD7 := zIa hd7
 clear htr7 hd7 hg7 hq
 go_wp2_with fail
 refine (zDh (n := 11) (Yf := fun i => if i ≤ 2 + 8 then Yg i else Y'.call 0 1 0 0 0 (wkB ⟨yb, ytb, p, c, (2 : Nat), 2, 0, 0, 2⟩ 4 0 true 0 0 0)) HD7.out HT7.out (by decide) (by show 2 ≤ 4; decide) (by decide) (by show (2 : Int) ≤ 4; decide) (by show (0 : Int) ≤ 3; decide)).mono ?_
 rintro r w8 ⟨s2, j2, l8, Y8, J8, Yg8, rfl, hF8⟩
 have hlen8 : (Yg8 (11 + s2)).ds.length = 3 := by
  rw [hF8.at', zID hF8.tick]
  show (Y'.ds ++ [_]).length = 3
  rw [HY8.out]
  obtain ⟨_, _, _, d0, d1, hds, _⟩ := lA_8
  rw [hds]
  rfl
 obtain ⟨d0, d1, d2, hds, hok, hv⟩ := aliveV (n0 := 10) rfl hF8.tr (by omega) (by rw [hF8.same 10 (by decide)]; show (if 10 ≤ 2 + 8 then Yg 10 else _) = _; rw [if_pos (by decide), ← HY8.out]; exact HF.out.at') (by
  rw [hF8.same 11 (by decide), hF8.same 10 (by decide)]
  show (if 11 ≤ 2 + 8 then _ else _) = Yd.call (if 10 ≤ 2 + 8 then Yg 10 else _) _ _ _ _ _ _
  rw [if_neg (by decide), if_pos (by decide)]
  have e := HF.out.at'
  rw [show Yg 10 = Y' from e]) hlen8 (fun k hk => by rw [hF8.at']; exact hF8.idle k hk)
 rw [hF8.at'] at hds
 have HF8 := zIa hF8
 have HV := zIa (And.intro hds (And.intro hok hv))
 have hdl : Y8.ds.length = 3 := by rw [hds]; rfl
 clear hF8 hlen8 hds hok hv HD7 HT7 HF HY8
 go_wp2_with fail
 refine (HF8.out.yd.deeds (by have := HF8.out.few; omega)).mono ?_
 rintro r w9 ⟨v9, rfl, hrow, hb9⟩
 obtain ⟨A9, cp9, rfl⟩ := zAK hrow
 have HZ := zIa (zAB HB4.out (HF8.out.yd.later hb9).h.below)
 have hat : ∃ b9, A9 = some ⟨b9, 0, none⟩ ∧ AtDd w9 b9 (2 * 11) d2 := by
  rcases hrow.2 with ⟨hv, h0⟩ | ⟨g9, cap', cur, hv, _⟩
  ·omega
  ·cases hv
   exact ⟨g9, rfl, AtDd.row hrow (by rw [HV.out.1]; rfl)⟩
 obtain ⟨b9, rfl, hat⟩ := hat
 have c7 := hat.c7
 have c8 := hat.c8
 rw [HV.out.2.1] at c7
 rw [HV.out.2.2] at c8
 clear hrow hb9 hat
 rw [hdl]
 clear hdl
 go_wp2_with fail
 go_ret
 exact ⟨rfl, HZ.out⟩
end
section
open Go.RowKit
structure AsksOk (l : List (Int × Int × Int × Int × Int)) : Prop where
 kind : ∀ a ∈ l, (a.2.1 = 0 ∨ a.2.1 = 1) ∧ (a.2.2.1 = 0 ∨ a.2.2.1 = 1)
 own : l.Pairwise (fun a b => a.2.1 = 0 → b.2.1 = 0 → a.2.2.2.1 < b.2.2.2.1)
theorem AsksOk.dkind {ds : List Dd} (h : AsksOk (ds.map Dd.ask)) {d : Dd} (hd : d ∈ ds) : (d.kd = 0 ∨ d.kd = 1) ∧ (d.e = 0 ∨ d.e = 1) := h.kind _ (List.mem_map_of_mem hd)
theorem AsksOk.down {ds : List Dd} (h : AsksOk (ds.map Dd.ask)) : DOwn ds := by
 have hp := h.own
 rw [List.pairwise_map] at hp
 have key : ∀ (i j : Nat) (d d' : Dd), i < j → ds[i]? = some d → ds[j]? = some d' → d.kd = 0 → d'.kd = 0 → d.x < d'.x := fun i j d d' hij hi hj k1 k2 => by
  obtain ⟨a1, a2⟩ := List.getElem?_eq_some_iff.1 hi
  obtain ⟨b1, b2⟩ := List.getElem?_eq_some_iff.1 hj
  have := List.pairwise_iff_getElem.1 hp i j a1 b1 hij
  rw [a2, b2] at this
  exact this k1 k2
 intro i i' d d' hi hi' k1 k2 e
 rcases Nat.lt_trichotomy i i' with h1 | h1 | h1
 ·have := key i i' d d' h1 hi hi' k1 k2
  omega
 ·exact h1
 ·have := key i' i d' d h1 hi' hi k2 k1
  omega
theorem TopOk.asks {B : YB} {N : Nat} {S : List CM} {Yf : Nat → Yd} {An : List Int} {T : Int} {st : Int × Int × List CM} {n : Nat} (h : TopOk T st n) (hS : st.2.2 = S) (hP : PTr B N S Yf An) : AsksOk ((Yf S.length).ds.map Dd.ask) := by
 obtain ⟨h1, h2⟩ := hP.deeds S.length (Nat.le_refl _)
 rw [List.take_length] at h1
 refine ⟨fun a ha => ?_, List.Pairwise.sublist h1 ?_⟩
 ·obtain ⟨d, hd, rfl⟩ := List.mem_map.1 ha
  exact h2 d hd
 ·rw [List.pairwise_map]
  have hown := h.own
  rw [hS] at hown
  refine (List.Pairwise.sublist List.filter_sublist hown).imp_of_mem (fun {a b} ha hb hab k1 k2 => ?_)
  have ka : a.k = 0 := of_decide_eq_true (List.mem_filter.1 ha).2
  have kb : b.k = 0 := of_decide_eq_true (List.mem_filter.1 hb).2
  exact hab ka k1 kb k2
end
section
open Go.RowKit
theorem YOk.fitT {pl : Nat → Pl} {t n : Nat} {Y : Yd} (h : YOk pl t n Y) (ht : t ≤ 1000) (hn : n ≤ 1000000) {d : Dd} (hd : d ∈ Y.ds) : d.Fit := by
 obtain ⟨i, hi⟩ := List.mem_iff_getElem?.1 hd
 obtain ⟨⟨w, hw, hwt, _⟩, f0, f1, f2⟩ := h.deed i d hi
 have hm := h.most
 refine ⟨WalkArith.wf_i64 (by omega), by omega, by omega, ?_, ?_⟩
 ·by_cases e : d.till = -1
  ·omega
  ·have := (f2 e).1
   omega
 ·by_cases e : d.till = -1
  ·omega
  ·have := (f2 e).2
   omega
theorem zH2 {w : World} {base cap : Nat} {A : Option Addr} {L : List Dd} (h : w.ownsRow base 76 11 (.slice A L.length cap) L.length (flatD L)) (hF : ∀ d ∈ L, d.Fit) : ∃ tb, IsDds w A L.length cap tb 0 L := by
 have hc := zBd h
 rcases h.2 with ⟨hv, h0⟩ | ⟨g, cap', cur, hv, _, hh, _⟩
 ·have hl : L = [] := List.eq_nil_of_length_eq_zero h0
  subst hl
  exact ⟨0, rfl, hc, fun hp => absurd hp (Nat.lt_irrefl _), fun i d hd => by cases hd⟩
 ·cases hv
  refine ⟨g, rfl, hc, fun _ => ⟨rfl, (Array.getElem?_eq_some_iff.1 hh).1⟩, fun i d hd => ⟨?_, hF d (List.mem_of_getElem? hd)⟩⟩
  rw [Nat.zero_add]
  exact AtDd.row h hd
theorem YdL.deedsT {W w : World} {l : List Thing} {B : YB} {N n : Nat} {Y : Yd} {J : Nat → Nat} (h : YdL W w l B N Y J n) (hn : n ≤ 1000000) (hT : B.T ≤ 1000) : Calls Tryz.prog 25 #[pt B.yb] w fun r w' => ∃ A cp tb, r = .returned (.slice A Y.ds.length cp) ∧ Below w.heap.size w w' ∧ IsDds w' A Y.ds.length cp tb 0 Y.ds := by
 refine (h.deeds hn).mono ?_
 rintro r w' ⟨v, rfl, hrow, hb⟩
 obtain ⟨A, cp, rfl⟩ := zAK hrow
 obtain ⟨tb, hd⟩ := zH2 hrow (fun d hd => h.ok.fitT hT hn hd)
 exact ⟨A, cp, tb, rfl, hb, hd⟩
theorem IsDds.less {w w' : World} {a : Option Addr} {len cap tb off : Nat} {l : List Dd} (h : IsDds w a len cap tb off l) (e : Below w.heap.size w w') : IsDds w' a len cap tb off l := h.later e (fun hp => (h.2.2.1 hp).2)
theorem IsDds.one' {w : World} {a : Option Addr} {len cap tb off : Nat} {l : List Dd} (h : IsDds w a len cap tb off l) {i : Nat} {d : Dd} (hd : l[i]? = some d) : a = some ⟨tb, off, none⟩ ∧ tb < w.heap.size ∧ AtDd w tb (off + i * 11) d := by
 have hi := (List.getElem?_eq_some_iff.1 hd).1
 obtain ⟨h1, h2⟩ := h.2.2.1 (by rw [← h.1]; omega)
 exact ⟨h1, h2, (h.2.2.2 i d hd).1⟩
theorem IsDds.one0 {w : World} {a : Option Addr} {len cap tb : Nat} {l : List Dd} (h : IsDds w a len cap tb 0 l) {i : Nat} {d : Dd} (hd : l[i]? = some d) : a = some ⟨tb, 0, none⟩ ∧ tb < w.heap.size ∧ AtDd w tb (i * 11) d := by
 have := h.one' hd
 rw [Nat.zero_add] at this
 exact this
theorem zAs (w : World) (a b : Dd) : Calls Tryz.prog 31 #[a.val, b.val] w fun e w' => e = .returned (.bool (decide (dBef a b))) ∧ Below w.heap.size w w' := by
 by_cases h : 0 ≤ a.till
 case pos =>
  have e2 : decide (dBef a b) = decide (a.till < b.fr) := decide_eq_decide.2 ⟨fun h => h.2, fun h2 => ⟨h, h2⟩⟩
  go_enter Tryz.func31, Tryz.ntmps31
  go_wp2_with fail
  go_ret
  exact ⟨by rw [e2]; rfl, ((Below.refl _ _).alloc (Nat.le_refl _) _).alloc (by simp) _⟩
 case neg =>
  have e2 : decide (dBef a b) = false := decide_eq_false (fun hh => h hh.1)
  go_enter Tryz.func31, Tryz.ntmps31
  go_wp2_with fail
  go_ret
  exact ⟨rfl, ((Below.refl _ _).alloc (Nat.le_refl _) _).alloc (by simp) _⟩
theorem zCn (A : Option Addr) (n cp tb off : Nat) (l : List Dd) (v : Int) (w : World) (h : IsDds w A n cp tb off l) (hn : n ≤ 1000000) :
  Calls Tryz.prog 32 #[.slice A n cp, .int .u64 v] w fun r w' => ∃ k : Int, r = .returned (.int .i64 k) ∧ TkIs l v k ∧ -1 ≤ k ∧ k ≤ 1000000 ∧ Below w.heap.size w w' := by
 have H := zIa h
 have hcap := h.2.1
 clear h
 go_enter Tryz.func32, Tryz.ntmps32
 go_wp2_with fail
 go_loopw [9] (fun iv wr => ∃ i : Nat, i ≤ n ∧ iv = .int .i64 i ∧ Hid (Below w.heap.size w wr) ∧ Hid (∀ (j : Nat) (d : Dd), j < i → l[j]? = some d → ¬ hadBy v d)) (fun iv _ => n - (RowKit.intOf iv).toNat)
 case atStart => exact ⟨0, Nat.zero_le _, rfl, zIa (Below.refl _ _), zIa (fun j d hj => absurd hj (Nat.not_lt_zero _))⟩
 case round =>
  obtain ⟨i, hi, rfl, HB, HN⟩ := hrel
  rcases Nat.lt_or_ge i n with hil | hil
  ·have hil' : (i : Int) < (n : Int) := by omega
   obtain ⟨d, hd⟩ : ∃ d, l[i]? = some d := ⟨_, List.getElem?_eq_getElem (by rw [H.out.1]; exact hil)⟩
   obtain ⟨rfl, htb, hat⟩ := (H.out.less HB.out).one' hd
   obtain ⟨d0, d1, d2, d3, d4, d5, d6, d7, d8, d9, d10⟩ := hat
   have HBN := zIa (fun o => zAA HB.out o)
   have HD := zIa hd
   have hmore : ¬ hadBy v d → ∀ (j : Nat) (e : Dd), j < i + 1 → l[j]? = some e → ¬ hadBy v e := fun hno j e hj he => by
    by_cases q : j = i
    ·subst q
     rw [HD.out] at he
     cases he
     exact hno
    ·exact HN.out j e (by omega) he
   have HM := zIa hmore
   clear hd hmore
   by_cases hk : d.kd = 1
   ·have hkb : (d.kd == 1) = true := by rw [hk]; rfl
    cases hok : d.ok with
    | false =>
     have HNO := zIa (HM.out (fun q => by have := q.2.1; rw [hok] at this; cases this))
     rw [hok] at d7
     clear hk hok
     go_wp2_with fail
     go_roundw
     case rel => exact ⟨i + 1, by omega, by go_num, zIa (HBN.out _), HNO⟩
     case measure => first | omega | (simp [RowKit.intOf]; done) | (simp [RowKit.intOf]; omega)
    | true =>
     rw [hok] at d7
     by_cases hv : d.v = v
     ·have HY := zIa (show hadBy v d from ⟨hk, hok, hv⟩)
      have hvb : (d.v == v) = true := by rw [hv]; exact beq_self_eq_true _
      clear hk hok hv
      go_wp2_with fail
      go_ret
      exact ⟨i, rfl, ⟨.inr ⟨i, d, rfl, HD.out, HY.out⟩⟩, by omega, by omega, HBN.out _⟩
     ·have HNO := zIa (HM.out (fun q => hv q.2.2))
      have hvb : (d.v == v) = false := beq_false_of_ne hv
      clear hk hok hv
      go_wp2_with fail
      go_roundw
      case rel => exact ⟨i + 1, by omega, by go_num, zIa (HBN.out _), HNO⟩
      case measure => first | omega | (simp [RowKit.intOf]; done) | (simp [RowKit.intOf]; omega)
   ·have hkb : (d.kd == 1) = false := beq_false_of_ne hk
    have HNO := zIa (HM.out (fun q => hk q.1))
    clear hk
    go_wp2_with fail
    go_roundw
    case rel => exact ⟨i + 1, by omega, by go_num, zIa (HBN.out _), HNO⟩
    case measure => first | omega | (simp [RowKit.intOf]; done) | (simp [RowKit.intOf]; omega)
  ·obtain rfl : i = n := by omega
   have hnn : ¬ (i : Int) < (i : Int) := by omega
   go_wp2_with fail
   go_ret
   exact ⟨-1, rfl, ⟨.inl ⟨rfl, fun d hd => by
    obtain ⟨j, hj⟩ := List.mem_iff_getElem?.1 hd
    exact HN.out j d (by have := (List.getElem?_eq_some_iff.1 hj).1; have := H.out.1; omega) hj⟩⟩, by omega, by omega, HB.out⟩
end
section
open Go.RowKit
theorem zCh (A : Option Addr) (n cp tb off : Nat) (l : List Dd) (w : World) (h : IsDds w A n cp tb off l) (hn : n ≤ 1000000) :
  Calls Tryz.prog 33 #[.slice A n cp] w fun r w' => ∃ k : Nat, r = .returned (.int .i64 k) ∧ (k = 0 → ∀ (i : Nat) (d : Dd), l[i]? = some d → d.kd = 1 → 0 ≤ d.till) ∧ k ≤ n ∧ Below w.heap.size w w' := by
 have H := zIa h
 have hcap := h.2.1
 clear h
 go_enter Tryz.func33, Tryz.ntmps33
 go_wp2_with fail
 go_loopw [3, 8] (fun kv iv wr => ∃ (i k : Nat), i ≤ n ∧ k ≤ i ∧ kv = .int .i64 k ∧ iv = .int .i64 i ∧ Hid (Below w.heap.size w wr) ∧ Hid (k = 0 → ∀ (j : Nat) (d : Dd), j < i → l[j]? = some d → d.kd = 1 → 0 ≤ d.till)) (fun _ iv _ => n - (RowKit.intOf iv).toNat)
 case atStart => exact ⟨0, 0, Nat.zero_le _, Nat.zero_le _, rfl, rfl, zIa (Below.refl _ _), zIa (fun _ j d hj => absurd hj (Nat.not_lt_zero _))⟩
 case round =>
  obtain ⟨i, k, hi, hki, rfl, rfl, HB, HN⟩ := hrel
  rcases Nat.lt_or_ge i n with hil | hil
  ·have hil' : (i : Int) < (n : Int) := by omega
   obtain ⟨d, hd⟩ : ∃ d, l[i]? = some d := ⟨_, List.getElem?_eq_getElem (by rw [H.out.1]; exact hil)⟩
   obtain ⟨rfl, htb, hat⟩ := (H.out.less HB.out).one' hd
   obtain ⟨d0, d1, d2, d3, d4, d5, d6, d7, d8, d9, d10⟩ := hat
   have HBN := zIa (zAA HB.out (d.obj 76))
   have HD := zIa hd
   have hmore : (d.kd = 1 → 0 ≤ d.till) → k = 0 → ∀ (j : Nat) (e : Dd), j < i + 1 → l[j]? = some e → e.kd = 1 → 0 ≤ e.till := fun hno k0 j e hj he => by
    by_cases q : j = i
    ·subst q
     rw [HD.out] at he
     cases he
     exact hno
    ·exact HN.out k0 j e (by omega) he
   have HM := zIa hmore
   clear hd hmore
   by_cases hk : d.kd = 1
   ·have hkb : (d.kd == 1) = true := by rw [hk]; rfl
    by_cases ht : d.till < 0
    ·clear hk
     have HH : Hid (k + 1 = 0 → ∀ (j : Nat) (e : Dd), j < i + 1 → l[j]? = some e → e.kd = 1 → 0 ≤ e.till) := zIa (fun q => absurd q (Nat.succ_ne_zero k))
     go_wp2_with fail
     go_roundw
     case rel => exact ⟨i + 1, k + 1, by omega, by omega, by go_num, by go_num, HBN, HH⟩
     case measure => first | omega | (simp [RowKit.intOf]; done) | (simp [RowKit.intOf]; omega)
    ·have HH := zIa (HM.out (fun _ => by omega))
     clear hk
     go_wp2_with fail
     go_roundw
     case rel => exact ⟨i + 1, k, by omega, by omega, rfl, by go_num, HBN, HH⟩
     case measure => first | omega | (simp [RowKit.intOf]; done) | (simp [RowKit.intOf]; omega)
   ·have hkb : (d.kd == 1) = false := beq_false_of_ne hk
    have HH := zIa (HM.out (fun q => absurd q hk))
    clear hk
    go_wp2_with fail
    go_roundw
    case rel => exact ⟨i + 1, k, by omega, by omega, rfl, by go_num, HBN, HH⟩
    case measure => first | omega | (simp [RowKit.intOf]; done) | (simp [RowKit.intOf]; omega)
  ·obtain rfl : i = n := by omega
   have hnn : ¬ (i : Int) < (i : Int) := by omega
   go_wp2_with fail
   go_ret
   exact ⟨k, rfl, fun k0 j d hd => HN.out k0 j d (by have := (List.getElem?_eq_some_iff.1 hd).1; have := H.out.1; omega) hd, by omega, HB.out⟩
def NearPost (e : Int) (a b : Dd) (w : World) (r : Ending) (w' : World) : Prop := ∃ y : Bool, r = .returned (.bool y) ∧ (y = true → dNear e a b) ∧ Below w.heap.size w w'
theorem zBX (e : Int) (a b : Dd) (w : World) : Calls Tryz.prog 34 #[.int .i64 e, a.val, b.val] w (NearPost e a b w) := by
 have HB := zIa (zAA (zAA (Below.refl w.heap.size w) (a.obj 76)) (b.obj 76))
 by_cases h : a.e = e
 ·have hb : (a.e == e) = true := by rw [h]; exact beq_self_eq_true _
  by_cases h2 : b.e = e
  ·have hb2 : (b.e != e) = false := by rw [h2]; simp
   have HD : Hid (decide (dBef b a) = true → dNear e a b) := zIa (fun q => by unfold dNear; rw [if_pos h]; exact .inr (of_decide_eq_true q))
   clear h h2
   go_enter Tryz.func34, Tryz.ntmps34
   go_wp2_with fail
   refine (zAs _ b a).mono ?_
   rintro r w1 ⟨rfl, hb1⟩
   have HZ := zIa (zAB HB.out hb1)
   clear hb1
   go_wp2_with fail
   go_ret
   exact ⟨_, rfl, HD.out, HZ.out⟩
  ·have hb2 : (b.e != e) = true := by simp [h2]
   have HD : Hid (true = true → dNear e a b) := zIa (fun q => by unfold dNear; rw [if_pos h]; exact .inl h2)
   clear h h2
   go_enter Tryz.func34, Tryz.ntmps34
   go_wp2_with fail
   go_ret
   exact ⟨_, rfl, fun _ => HD.out (by first | rfl | trivial), HB.out⟩
 ·have hb : (a.e == e) = false := beq_false_of_ne h
  by_cases h2 : b.e = e
  ·have hb2 : (b.e != e) = false := by rw [h2]; simp
   clear h h2
   go_enter Tryz.func34, Tryz.ntmps34
   go_wp2_with fail
   go_ret
   exact ⟨_, rfl, fun q => (by cases q), HB.out⟩
  ·have hb2 : (b.e != e) = true := by simp [h2]
   have HD : Hid (decide (dBef a b) = true → dNear e a b) := zIa (fun q => by unfold dNear; rw [if_neg h]; exact ⟨h2, of_decide_eq_true q⟩)
   clear h h2
   go_enter Tryz.func34, Tryz.ntmps34
   go_wp2_with fail
   refine (zAs _ a b).mono ?_
   rintro r w1 ⟨rfl, hb1⟩
   have HZ := zIa (zAB HB.out hb1)
   clear hb1
   go_wp2_with fail
   go_ret
   exact ⟨_, rfl, HD.out, HZ.out⟩
end
section
open Go.RowKit
theorem zGm : ∀ (L : List Ev) (i : Nat) (e : Ev), L[i]? = some e → ∀ j u, e.cells[j]? = some u → (flatE L)[i * 6 + j]? = some u
 | [], _, _, h, _, _, _ => by simp at h
 | x :: L, 0, e, h, j, u, hu => by
  simp only [List.getElem?_cons_zero, Option.some.injEq] at h
  subst h
  have hj : j < 6 := (List.getElem?_eq_some_iff.1 hu).1
  rw [flatE, Nat.zero_mul, Nat.zero_add, List.getElem?_append_left (by show j < 6; exact hj)]
  exact hu
 | x :: L, i + 1, e, h, j, u, hu => by
  rw [flatE, List.getElem?_append_right (by show 6 ≤ _; omega)]
  rw [show (i + 1) * 6 + j - x.cells.length = i * 6 + j by show (i + 1) * 6 + j - 6 = _; omega]
  exact zGm L i e (by simpa using h) j u hu
theorem zAi {W1 W2 w : World} {l1 l2 : List Thing} {B1 B2 : YB} {N1 N2 n1 n2 : Nat} {Y1 Y2 : Yd} {J1 J2 : Nat → Nat} (h1 : YdL W1 w l1 B1 N1 Y1 J1 n1) (h2 : YdL W2 w l2 B2 N2 Y2 J2 n2) (hn1 : n1 ≤ 1000) (hn2 : n2 ≤ 1000) (hT1 : B1.T ≤ 1000) (hT2 : B2.T ≤ 1000) (hd : Y2.ds = Y1.ds) (hL : Y2.L = Y1.L) (ht : Y2.now = Y1.now) :
  Calls Tryz.prog 17 #[pt B1.yb, pt B2.yb] w fun r w' => r = .returned (.bool true) ∧ Below w.heap.size w w' := by
 have H1 := zIa h1
 have H2 := zIa h2
 have HT := zIa ht
 have HD := zIa hd
 have HL := zIa hL
 have hdl : Y1.ds.length ≤ 1000 := by have := h1.ok.nds; have := h1.ok.most; omega
 have hll : Y1.L.length ≤ 100000000 := by have := h1.ok.nL; have := h1.ok.most; omega
 clear h1 h2 hd hL ht
 go_enter Tryz.func17, Tryz.ntmps17
 go_wp2_with fail
 refine (H1.out.deedsT (by omega) hT1).mono ?_
 rintro r w1 ⟨A1, c1, t1, rfl, hb, hD1⟩
 have K1 := zIa (H1.out.later hb)
 have K2 := zIa (H2.out.later hb)
 have HW1 := zIa hb
 have HD1 := zIa hD1
 have hc1 := hD1.2.1
 clear hb hD1 H1 H2
 go_wp2_with fail
 refine (K2.out.deedsT (by omega) hT2).mono ?_
 rintro r w2 ⟨A2, c2, t2, rfl, hb, hD2⟩
 have M1 := zIa (K1.out.later hb)
 have M2 := zIa (K2.out.later hb)
 have HW2 := zIa (zAB HW1.out hb)
 have HE1 := zIa (HD1.out.less hb)
 have HE2 := zIa hD2
 have hc2 := hD2.2.1
 rw [HD.out] at HE2 hc2 ⊢
 clear hb hD2 K1 K2 HW1 HD1
 go_wp2_with fail
 refine (M1.out.log (by omega)).mono ?_
 rintro r w3 ⟨v3, rfl, ho3, hb⟩
 obtain ⟨A3, c3, rfl⟩ := zAK ho3
 have K1 := zIa (M1.out.later hb)
 have K2 := zIa (M2.out.later hb)
 have HW3 := zIa (zAB HW2.out hb)
 have HF1 := zIa (HE1.out.less hb)
 have HF2 := zIa (HE2.out.less hb)
 have HL1 := zIa (IsAt.own ho3)
 have hc3 := zBd ho3
 clear hb ho3 M1 M2 HW2 HE1 HE2
 go_wp2_with fail
 refine (K2.out.log (by omega)).mono ?_
 rintro r w4 ⟨v4, rfl, ho4, hb⟩
 obtain ⟨A4, c4, rfl⟩ := zAK ho4
 have M1 := zIa (K1.out.later hb)
 have M2 := zIa (K2.out.later hb)
 have HW4 := zIa (zAB HW3.out hb)
 have HE1 := zIa (HF1.out.less hb)
 have HE2 := zIa (HF2.out.less hb)
 have HM1 := zIa (HL1.out.later hb)
 have HM2 := zIa (IsAt.own ho4)
 have hc4 := zBd ho4
 rw [HL.out] at HM2 hc4 ⊢
 clear hb ho4 K1 K2 HW3 HF1 HF2 HL1
 generalize hds : Y1.ds = ds at HE1 HE2 hdl hc1 hc2 ⊢
 obtain ⟨n, hn⟩ : ∃ n, ds.length = n := ⟨_, rfl⟩
 rw [hn] at HE1 HE2 hdl hc1 hc2 ⊢
 have HN := zIa hn
 obtain ⟨L, hLe⟩ : ∃ L, Y1.L = L := ⟨_, rfl⟩
 rw [hLe] at HM1 HM2 hll hc3 hc4 ⊢
 obtain ⟨k, hk⟩ : ∃ k, L.length = k := ⟨_, rfl⟩
 rw [hk] at hll hc3 hc4 ⊢
 have HK := zIa hk
 clear hds hn hLe hk
 go_wp2_with fail
 obtain ⟨v5, vd5, X5, hA5⟩ := M1.out.h
 refine (zEm hA5).mono ?_
 rintro r w5 ⟨rfl, hb⟩
 have K2 := zIa (M2.out.later hb)
 have HW5 := zIa (zAB HW4.out hb)
 have HF1 := zIa (HE1.out.less hb)
 have HF2 := zIa (HE2.out.less hb)
 have HL1 := zIa (HM1.out.later hb)
 have HL2 := zIa (HM2.out.later hb)
 clear hb hA5 M1 M2 HW4 HE1 HE2 HM1 HM2
 go_wp2_with fail
 obtain ⟨v6, vd6, X6, hA6⟩ := K2.out.h
 refine (zEm hA6).mono ?_
 rintro r w6 ⟨rfl, hb⟩
 rw [HT.out]
 have HW6 := zIa (zAB HW5.out hb)
 have HE1 := zIa (HF1.out.less hb)
 have HE2 := zIa (HF2.out.less hb)
 have HM1 := zIa (HL1.out.later hb)
 have HM2 := zIa (HL2.out.later hb)
 clear hb hA6 K2 HW5 HF1 HF2 HL1 HL2
 generalize Y1.now = tm
 go_wp2_with fail
 go_loopw [40] (fun iv wr => ∃ i : Nat, i ≤ n ∧ iv = .int .i64 i ∧ Hid (Below w6.heap.size w6 wr)) (fun iv _ => n - (RowKit.intOf iv).toNat)
 case atStart => exact ⟨0, Nat.zero_le _, rfl, zIa (Below.refl _ _)⟩
 case round =>
  obtain ⟨i, hi, rfl, HW⟩ := hrel
  rcases Nat.lt_or_ge i n with hil | hil
  ·have hil' : (i : Int) < (n : Int) := by omega
   obtain ⟨d, hd⟩ : ∃ d, ds[i]? = some d := ⟨_, List.getElem?_eq_getElem (by rw [HN.out]; exact hil)⟩
   obtain ⟨rfl, hta, hat⟩ := (HE1.out.less HW.out).one0 hd
   obtain ⟨rfl, htb, hbt⟩ := (HE2.out.less HW.out).one0 hd
   obtain ⟨d0, d1, d2, d3, d4, d5, d6, d7, d8, d9, d10⟩ := hat
   obtain ⟨e0, e1, e2, e3, e4, e5, e6, e7, e8, e9, e10⟩ := hbt
   clear hd
   go_wp2_with fail
   refine zAS ((0, true) :: (1, true) :: (2, true) :: (3, true) :: (4, true) :: (5, true) :: (6, true) :: (7, true) :: (8, true) :: []) (by kernel_rfl) (by kernel_rfl) (by kernel_rfl) (by decide) (fun _ _ _ _ _ h => h) (fun hHeld => ?_)
   repeat (first
    | (refine zAC (v := ?_) rfl ?_ ?_ ?_; rotate_left 1; rfl; (focus (intro wS hSw; have hk := zAQ hSw; go_simp; first | done | with_reducible rfl)); (try simp only [Act.put, qset]))
    | (refine zAD rfl ?_ ?_; rfl; (try simp only [Act.put, qset]))
    | (refine zAF rfl (fun K hK => ?_); go_simp; (try skip); (try go_wp2_with fail); refine hK.out _ _ ?_ ?_; (focus (first | exact zAB hHeld hb' | exact zAA hHeld _ | exact hHeld)); (try clear hb'); clear hHeld hK K; intro hHeld; (try simp only [Act.put, qset])))
   first | refine zAI ?_ | skip
   have HWn := zIa (zAB HW.out hHeld)
   clear hHeld d0 d1 d2 d3 d4 d5 d6 d7 d8 d9 d10 e0 e1 e2 e3 e4 e5 e6 e7 e8 e9 e10
   go_wp2_with fail
   go_roundw
   case rel => exact ⟨i + 1, by omega, by go_num, HWn⟩
   case measure => first | omega | (simp [RowKit.intOf]; done) | (simp [RowKit.intOf]; omega)
  ·obtain rfl : i = n := by omega
   have hnn : ¬ (i : Int) < (i : Int) := by omega
   have HW7 := zIa (zAB HW6.out HW.out)
   have HL1 := zIa (HM1.out.later HW.out)
   have HL2 := zIa (HM2.out.later HW.out)
   clear HW HE1 HE2 HM1 HM2 HW6
   go_wp2_with fail
   go_loopw [55] (fun jv wr2 => ∃ j : Nat, j ≤ k ∧ jv = .int .i64 j ∧ Hid (Below wr.heap.size wr wr2)) (fun jv _ => k - (RowKit.intOf jv).toNat)
   case atStart => exact ⟨0, Nat.zero_le _, rfl, zIa (Below.refl _ _)⟩
   case round =>
    obtain ⟨j, hj, rfl, HW⟩ := hrel
    rcases Nat.lt_or_ge j k with hjl | hjl
    ·have hjl' : (j : Int) < (k : Int) := by omega
     obtain ⟨e, he⟩ : ∃ e, L[j]? = some e := ⟨_, List.getElem?_eq_getElem (by rw [HK.out]; exact hjl)⟩
     have hp : 0 < (flatE L).length := by rw [zBI, HK.out]; omega
     obtain ⟨ba, oa, rfl, la, fa⟩ := HL1.out hp
     obtain ⟨bb, ob, rfl, lb, fb⟩ := HL2.out hp
     have ga : ∀ q u, e.cells[q]? = some u → wr.cell? ⟨ba, oa + j * 6 + q, none⟩ = some u := fun q u hu => (HW.out.cell (p := ⟨ba, oa + j * 6 + q, none⟩) la).trans (by rw [Nat.add_assoc]; exact fa (j * 6 + q) u (zGm L j e he q u hu))
     have gb : ∀ q u, e.cells[q]? = some u → wr.cell? ⟨bb, ob + j * 6 + q, none⟩ = some u := fun q u hu => (HW.out.cell (p := ⟨bb, ob + j * 6 + q, none⟩) lb).trans (by rw [Nat.add_assoc]; exact fb (j * 6 + q) u (zGm L j e he q u hu))
     have a0 := ga 0 _ rfl
     have a1 := ga 1 _ rfl
     have a2 := ga 2 _ rfl
     have a3 := ga 3 _ rfl
     have a4 := ga 4 _ rfl
     have a5 := ga 5 _ rfl
     have b0 := gb 0 _ rfl
     have b1' := gb 1 _ rfl
     have b2' := gb 2 _ rfl
     have b3 := gb 3 _ rfl
     have b4 := gb 4 _ rfl
     have b5 := gb 5 _ rfl
     rw [Nat.add_zero] at a0 b0
     clear ga gb fa fb hp he
     go_wp2_with fail
     refine zAS ((0, true) :: (1, true) :: (2, true) :: (3, true) :: (4, true) :: (5, true) :: (6, true) :: (7, true) :: (8, true) :: []) (by kernel_rfl) (by kernel_rfl) (by kernel_rfl) (by decide) (fun _ _ _ _ _ h => h) (fun hHeld => ?_)
     repeat (first
      | (refine zAC (v := ?_) rfl ?_ ?_ ?_; rotate_left 1; rfl; (focus (intro wS hSw; have hk := zAQ hSw; go_simp; first | done | with_reducible rfl)); (try simp only [Act.put, qset]))
      | (refine zAD rfl ?_ ?_; rfl; (try simp only [Act.put, qset]))
      | (refine zAF rfl (fun K hK => ?_); go_simp; (try skip); (try go_wp2_with fail); refine hK.out _ _ ?_ ?_; (focus (first | exact zAB hHeld hb' | exact zAA hHeld _ | exact hHeld)); (try clear hb'); clear hHeld hK K; intro hHeld; (try simp only [Act.put, qset])))
     first | refine zAI ?_ | skip
     have HWn := zIa (zAB HW.out hHeld)
     clear hHeld a0 a1 a2 a3 a4 a5 b0 b1' b2' b3 b4 b5
     go_wp2_with fail
     go_roundw
     case rel => exact ⟨j + 1, by omega, by go_num, HWn⟩
     case measure => first | omega | (simp [RowKit.intOf]; done) | (simp [RowKit.intOf]; omega)
    ·obtain rfl : j = k := by omega
     have hnn : ¬ (j : Int) < (j : Int) := by omega
     go_wp2_with fail
     go_ret
     exact ⟨rfl, zAB HW7.out HW.out⟩
end
end Go.Proofs.YtpfjommkjkbonaaGreat
