/-
  WholeTimes answers true for all numbers and lists of moves, and leaves all memory that was there as it was. No condition.
-/
import Derived.Test.YtpfjommkjkbonabGreatQE12
import Derived.Test.YtpfjommkjkbonabGreatQE13
import Derived.Test.YtpfjommkjkbonabGreatQE1
namespace Go.Proofs.YtpfjommkjkbonabGreat
open Go.RowKit
set_option linter.unusedVariables false

/-- What two deeds have in common. -/
structure TimD (so : Int) (d d' : Dd) : Prop where
  kd : d'.kd = d.kd
  e : d'.e = d.e
  x : d'.x = d.x
  s : d'.s = d.s
  fr : d'.fr = d.fr
  all : so < 3 → d' = d
theorem DdR.timd {P : Int → Int → Prop} {so : Int} {d d' : Dd} (h : DdR P false id d d') (hP : so < 3 → ∀ a b, P a b → a = b) : TimD so d d' := by
  have he : d'.e = d.e := h.e
  have hx : d'.x = d.x := h.x.trans (by split <;> rfl)
  have hv : d'.v = d.v := h.v.trans (by split <;> rfl)
  refine ⟨h.kd, he, hx, h.s, h.fr, fun ho => ?_⟩
  have hl : d'.lo = d.lo ∧ d'.hi = d.hi := by
    by_cases q : d.kd = 0 ∧ d.ok = true
    · obtain ⟨a, b⟩ := h.st q.1 q.2
      exact ⟨(hP ho _ _ a).symm, (hP ho _ _ b).symm⟩
    · exact h.no q
  obtain ⟨a1, a2, a3, a4, a5, a6, a7, a8, a9, a10, a11⟩ := d
  obtain ⟨b1, b2, b3, b4, b5, b6, b7, b8, b9, b10, b11⟩ := d'
  obtain ⟨w1, w2, _, _, w5, w6, w7, w8, _, _, _⟩ := h
  simp only at w1 w2 w5 w6 w7 w8 he hx hv hl
  obtain ⟨l1, l2⟩ := hl
  subst w1 w2 w5 w6 w7 w8 he hx hv l1 l2
  rfl
theorem TimeR.dd {so : Int} {N : Nat} {X Z : Yd} (h : TimeR so N X Z) : ∀ (i : Nat) (d : Dd), X.ds[i]? = some d → ∃ d', Z.ds[i]? = some d' ∧ TimD so d d' := fun i d hd => by
  rcases h with ⟨ho, h⟩ | ⟨ho, L, _, _, h⟩
  · obtain ⟨d', h1, h2⟩ := h.deed i d hd
    exact ⟨d', h1, h2.timd (fun _ a b e => e)⟩
  · obtain ⟨d', h1, h2⟩ := h.deed i d hd
    exact ⟨d', h1, h2.timd (fun q => absurd q (by omega))⟩

theorem beg_of {m : CM} (h : m.Good) (hk : m.k = 0) : (m.ce = 0 ∨ m.ce = 1) ∧ (m.ck = 0 ∨ m.ck = 1) := by
  obtain ⟨h, _⟩ := h
  unfold CM.Right CM.beg CM.stp CM.pas at h
  omega
theorem tw_other {m : CM} (h : m.Good) (hk : m.k = 0) : m.tw true id = { m with ce := otherE m.ce } := by
  have he := (beg_of h hk).1
  unfold CM.tw flE otherE
  have e1 : (if true = true then 1 - m.ce else m.ce) = if m.ce = 0 then 1 else 0 := by rcases he with e | e <;> rw [e] <;> rfl
  have e2 : (if m.ck = 0 then id m.v else m.v) = m.v := by split <;> rfl
  rw [if_pos hk, e1, e2]
theorem tw_none {m : CM} {fl : Bool} {f : Int → Int} (hk : m.k ≠ 0) : m.tw fl f = m := by
  unfold CM.tw
  rw [if_neg hk]
theorem tw_get {m : CM} {f : Int → Int} (hk : m.k = 0) (hc : m.ck ≠ 0) : m.tw false f = m := by
  unfold CM.tw flE
  rw [if_pos hk, if_neg hc]
  rfl
theorem tw_put {m : CM} {f : Int → Int} (hk : m.k = 0) (hc : m.ck = 0) : m.tw false f = { m with v := f m.v } := by
  unfold CM.tw flE
  rw [if_pos hk, if_pos hc]
  rfl
def xorV (b a : Int) : Int := bits BinOp.xor IntKind.u64 a b
theorem xorV_in (b a : Int) : 0 ≤ xorV b a ∧ xorV b a ≤ 18446744073709551615 := zDB (wf_bits BinOp.xor IntKind.u64 a b)
theorem map_fit {f : CM → CM} {S : List CM} (h : ∀ m ∈ S, m.Good) (hf : ∀ m ∈ S, m.Good → (f m).Fit) : ∀ m ∈ S.map f, m.Fit := fun m hm => by
  obtain ⟨a, ha, rfl⟩ := List.mem_map.1 hm
  exact hf a ha (h a ha)
theorem tw_fit {m : CM} {fl : Bool} {f : Int → Int} (h : m.Fit) (hf : 0 ≤ f m.v ∧ f m.v ≤ 18446744073709551615) : (m.tw fl f).Fit := by
  unfold CM.tw
  split
  · unfold CM.Fit
    show 0 ≤ (if m.ck = 0 then f m.v else m.v) ∧ (if m.ck = 0 then f m.v else m.v) ≤ _
    split
    · exact hf
    · exact h
  · exact h

set_option maxRecDepth 100000 in
set_option maxHeartbeats 8000000 in
theorem walk_WholeTimes (a0 : Int) (a1 : Int) (a2 : Int) (a3 : Option Addr) (len3 cap3 : Nat) (w : World) (w0 : (Lit.int .i64 a0).wf = true) (w1 : (Lit.int .i64 a1).wf = true) (w2 : (Lit.int .i64 a2).wf = true) (w3 : IsRows w [.inl .i64, .inl .i64, .inl .i64, .inl .i64, .inr true, .inr true, .inl .u64, .inl .i64] a3 len3 cap3) :
    Calls Tryz.prog 13 #[.int .i64 a0, .int .i64 a1, .int .i64 a2, .slice a3 len3 cap3] w fun e w' => e = .returned (.bool true) ∧ Below w.heap.size w w' := by
  clear w0 w1 w2
  obtain ⟨V, rfl, hV⟩ := zBV w3
  have HV := zIt hV
  clear w3 hV
  rcases Nat.lt_or_ge 300 V.length with hbig | hs4
  · have hbig' : (300 : Int) < (V.length : Int) := by omega
    go_enter Tryz.func13, Tryz.ntmps13
    go_wp2_with fail
    refine (zAZ _).mono ?_
    rintro e w1 ⟨rfl, hb1⟩
    go_wp2_with fail
    go_ret
    exact ⟨rfl, hb1⟩
  have hs5 : ¬ (300 : Int) < (V.length : Int) := by omega
  go_enter Tryz.func13, Tryz.ntmps13
  go_wp2_with fail
  refine (zAZ _).mono ?_
  rintro e w1 ⟨rfl, hb1⟩
  have HB1 := zIt hb1
  have HV1 := zIt (HV.out.later hb1)
  clear hb1 HV
  go_wp2_with fail
  have HSC := zIt (zA1 a0 a1 a2 2 1000 a3 cap3 V _ HV1.out (by omega) (.inr (.inr rfl)))
  have HTOK := zIt (TopOk.of (T := 1 + a0 % 4) 2 1000 (by omega) (by omega) V (by omega))
  obtain ⟨S, hS⟩ : ∃ S, (topS (1 + a0 % 4) 2 1000 V).2.2 = S := ⟨_, rfl⟩
  have HTM : Hid (∀ m ∈ S, m.k = 2 → m.n ≤ 32768) := zIt (fun m hm => zBD (T := 1 + a0 % 4) (mode := 2) (most := 1000) V m (by rw [hS]; exact hm))
  have HGD : Hid (∀ m ∈ S, m.Good) := zIt (fun m hm => HTOK.out.right m (by rw [hS]; exact hm))
  have hSl : S.length ≤ 300 := by have h := HTOK.out.len; rw [hS] at h; omega
  rw [hS] at HSC
  obtain ⟨T, hT⟩ : ∃ T : Nat, 1 + a0 % 4 = T := ⟨(1 + a0 % 4).toNat, by omega⟩
  obtain ⟨s, hs⟩ : ∃ s, 1 + a1 % 4 = s := ⟨_, rfl⟩
  obtain ⟨so, hso⟩ : ∃ so, wrap64 ((IntKind.u64.wrap a2).tmod 5) = so := ⟨_, rfl⟩
  have ho := src5 a2
  rw [hso] at ho
  rw [hT, hs, hso] at HSC
  obtain ⟨N, hN⟩ : ∃ N : Nat, (T : Int) * s = N := ⟨((T : Int) * s).toNat, by have := Int.mul_nonneg (by omega : (0 : Int) ≤ (T : Int)) (by omega : 0 ≤ s); omega⟩
  have HLAY : Hid (Lay T s N) := zIt (hN ▸ Lay.mk' (by omega) (by omega) (by omega) (by omega))
  have hT4 : T ≤ 4 := by omega
  have HSO := zIt ho
  clear HTOK HV1 hT hs hso hN hS ho
  have HLL : Hid (∀ i, i ≤ S.length → (noPass (S.take i)).length ≤ i) := zIt (fun i hi => (zCO S i).2)
  refine HSC.out.mono ?_
  rintro r w2 ⟨A, cp, hS⟩
  obtain rfl := hS.ret
  have HH0 := (Hold.nil (Below.refl w1.heap.size w1)).more (A := tRow w1.heap.size 72 7 (.slice A S.length cp) S.length (flatM S)) hS.below (zAT _ _ _ _ _ _) hS.row (fun q hq => (hS.row.lt q hq).1)
  have HH1 := HH0.more (A := tObj w1.heap.size w2.heap.size [i64 T, i64 s, i64 so, i64 1, .slice A S.length cp]) (zAA (Below.refl _ _) (.cells #[.int .i64 T, .int .i64 s, .int .i64 so, .int .i64 1, .slice A S.length cp] 58)) (zAP _ _ _) ⟨IsObj.made _ [i64 T, i64 s, i64 so, i64 1, .slice A S.length cp] 58, HH0.size⟩ (fun q hq => by cases hq; exact Nat.le_refl _)
  have HH2 := HH1.more (A := tObj w1.heap.size (w2.alloc (.cells #[.int .i64 T, .int .i64 s, .int .i64 so, .int .i64 1, .slice A S.length cp] 58)).heap.size [i64 T, i64 s, i64 so, i64 1, .slice none 0 0]) (zAA (Below.refl _ _) (.cells #[.int .i64 T, .int .i64 s, .int .i64 so, .int .i64 1, .slice none 0 0] 58)) (zAP _ _ _) ⟨IsObj.made _ [i64 T, i64 s, i64 so, i64 1, .slice none 0 0] 58, HH1.size⟩ (fun q hq => by cases hq; exact Nat.le_refl _)
  have HH3 := HH2.more (A := tRow w1.heap.size 72 7 (.slice none 0 0) 0 []) (Below.refl _ _) (zAT _ _ _ _ _ _) (World.ownsRow_nil _ _ _ _) (fun q hq => by cases hq)
  have hcap := zAw hS.row
  simp only [World.size_alloc] at HH3
  have HH := zIt HH3
  clear HH0 HH1 HH2 HH3 hS HSC
  go_wp2_with fail
  generalize htb : w2.heap.size + 1 = tb at HH ⊢
  generalize hsb : w2.heap.size = sb at HH ⊢
  clear htb hsb
  go_loopw [44] (fun iv wr => ∃ (i : Nat) (A1 : Option Addr) (cp1 : Nat) (l : List CM), i ≤ S.length ∧ iv = .int .i64 i ∧ Hid (noPass (S.take i) = l) ∧ Hid (Hold w1 wr [tRow w1.heap.size 72 7 (.slice A S.length cp) S.length (flatM S), tObj w1.heap.size sb [i64 T, i64 s, i64 so, i64 1, .slice A S.length cp], tObj w1.heap.size tb [i64 T, i64 s, i64 so, i64 1, .slice A1 l.length cp1], tRow w1.heap.size 72 7 (.slice A1 l.length cp1) l.length (flatM l)])) (fun iv _ => S.length - (RowKit.intOf iv).toNat)
  case atStart => exact ⟨0, none, 0, [], Nat.zero_le _, rfl, zIt (by rw [List.take_zero]; rfl), HH⟩
  case round =>
    clear HH
    obtain ⟨i, A1, cp1, l, hi, rfl, HL, HH⟩ := hrel
    have hll : l.length ≤ i := by rw [← HL.out]; exact HLL.out i hi
    rcases Nat.lt_or_ge i S.length with hil | hil
    · have hil' : (i : Int) < (S.length : Int) := by omega
      obtain ⟨m, hm⟩ : ∃ m, S[i]? = some m := ⟨_, List.getElem?_eq_getElem hil⟩
      have HMM := zIt (HGD.out m (List.mem_of_getElem? hm))
      have HTK := zIt (zA3 hm)
      have hrow : wr.ownsRow w1.heap.size 72 7 (.slice A S.length cp) S.length (flatM S) := HH.out.has 0 _ rfl
      obtain ⟨b, off, rfl, hbl, hc⟩ := (IsAt.own hrow).move hm
      obtain ⟨k, who, ck, ce, v, st, n⟩ := m
      obtain ⟨c0, c1, c2, c3, c4, c5, c6⟩ := hc
      have hsb := (HH.out.has 2 _ rfl : IsObj wr tb [i64 T, i64 s, i64 so, i64 1, .slice A1 l.length cp1] ∧ _).1
      have s4 := hsb.at' 4 _ rfl
      have htl := hsb.lt
      clear hrow hm hsb
      simp only at c0 c1 c2 c3 c4 c5 c6
      by_cases hk : k = 2
      case pos =>
        subst hk
        have HHn := zIt (HH.out.later (zAA (Below.refl _ _) ((⟨2, who, ck, ce, v, st, n⟩ : CM).obj 72)))
        go_wp2_with fail
        go_roundw
        case rel => exact ⟨i + 1, A1, cp1, l, by omega, by go_num, zIt (by rw [HTK.out, zAp, if_pos rfl, List.append_nil]; exact HL.out), HHn⟩
        case measure => first | omega | (simp [RowKit.intOf]; done) | (simp [RowKit.intOf]; omega)
      case neg =>
        have hkb : (k != 2) = true := by simp [hk]
        have HK := zIt hk
        clear hk
        have HLa := zIt ((HH.out.later (zAA (Below.refl _ _) ((⟨k, who, ck, ce, v, st, n⟩ : CM).obj 72))).later (zAA (Below.refl _ _) ((⟨k, who, ck, ce, v, st, n⟩ : CM).obj 72)))
        go_wp2_with (at_builtin; go_loud (refine zAH rfl _ _ 56 rfl w1.heap.size 72 _ 7 56 zAV (.slice A1 l.length cp1) l.length (flatM l) rfl (HLa.out.has 3 _ rfl) (some ⟨_, 0, none⟩) 1 1 (⟨k, who, ck, ce, v, st, n⟩ : CM).list rfl (zAW _ _ ⟨k, who, ck, ce, v, st, n⟩ (by simp)) (by unfold maxLen; omega) (by omega) HLa.out.size ?_); intro v' w8 hG; go_loud (obtain ⟨A3, cp3, rfl⟩ := zAK hG.own; have HH8 := zIt (HLa.out.append 3 rfl rfl hG); have hs8 := (HH8.out.has 2 _ rfl : IsObj w8 tb [i64 T, i64 s, i64 so, i64 1, .slice A1 l.length cp1] ∧ _).1; have z4 := hs8.at' 4 _ rfl; have y4 := hs8.fz 4; clear hs8 hG s4 c0 c1 c2 c3 c4 c5 c6))
        have HH9 := zIt (HH8.out.cdSet 2 rfl 4 (.slice A3 (l.length + 1) cp3))
        clear HH8 HLa z4 y4
        go_roundw
        case rel =>
          refine ⟨i + 1, A3, cp3, l ++ [⟨k, who, ck, ce, v, st, n⟩], by omega, by go_num, zIt ?_, zIt ?_⟩
          · rw [HTK.out, zAp, if_neg HK.out, HL.out]
          · have h := HH9.out
            rw [List.length_append, List.length_singleton, zAO, show flatM [(⟨k, who, ck, ce, v, st, n⟩ : CM)] = (⟨k, who, ck, ce, v, st, n⟩ : CM).list by rw [flatM, flatM, List.append_nil]]
            exact h
        case measure => first | omega | (simp [RowKit.intOf]; done) | (simp [RowKit.intOf]; omega)
    · obtain rfl : i = S.length := by omega
      have hnn : ¬ (S.length : Int) < (S.length : Int) := by omega
      have hll2 : l.length ≤ S.length := hll
      rw [List.take_length] at HL
      have hrowS : wr.ownsRow w1.heap.size 72 7 (.slice A S.length cp) S.length (flatM S) := HH.out.has 0 _ rfl
      have hs0 := (HH.out.has 1 _ rfl : IsObj wr sb [i64 T, i64 s, i64 so, i64 1, .slice A S.length cp] ∧ _).1
      obtain ⟨q0, q1, q2, q3, q4⟩ : _ ∧ _ ∧ _ ∧ _ ∧ _ := ⟨hs0.at' 0 _ rfl, hs0.at' 1 _ rfl, hs0.at' 2 _ rfl, hs0.at' 3 _ rfl, hs0.at' 4 _ rfl⟩
      have HIS := zIt (IsAt.own hrowS)
      have HFL : Hid (∀ m ∈ l, m.Fit) := zIt (by rw [← HL.out]; exact fun m hm => (HGD.out m (List.mem_filter.1 hm).1).2)
      clear hrowS hs0 HLL
      go_wp2_with fail
      refine (zAc T s so 1 N A cp S _ HIS.out (fun m hm => (HGD.out m hm).2) (by omega) HLAY.out HSO.out.1 HSO.out.2 (by decide) (by decide)).mono ?_
      rintro r w3 ⟨W, l1, yb, ytb, p, c, Yf, An, J, g, rfl, hb3, hP⟩
      have HP := zIt hP
      have HH3 := zIt (HH.out.later (zAB hb3 hP.yd.h.below))
      clear hb3 hP HH HIS q0 q1 q2 q3 q4
      have hrowT : w3.ownsRow w1.heap.size 72 7 (.slice A1 l.length cp1) l.length (flatM l) := HH3.out.has 3 _ rfl
      have ht0 := (HH3.out.has 2 _ rfl : IsObj w3 tb [i64 T, i64 s, i64 so, i64 1, .slice A1 l.length cp1] ∧ _).1
      obtain ⟨q0, q1, q2, q3, q4⟩ : _ ∧ _ ∧ _ ∧ _ ∧ _ := ⟨ht0.at' 0 _ rfl, ht0.at' 1 _ rfl, ht0.at' 2 _ rfl, ht0.at' 3 _ rfl, ht0.at' 4 _ rfl⟩
      have HIT := zIt (IsAt.own hrowT)
      clear hrowT ht0
      go_wp2_with fail
      refine (zAc T s so 1 N A1 cp1 l _ HIT.out HFL.out (by omega) HLAY.out HSO.out.1 HSO.out.2 (by decide) (by decide)).mono ?_
      rintro r w4 ⟨W2, l2, yb2, ytb2, p2, c2, Yg, Bn, J2, g2, rfl, hb4, hQ⟩
      have HB4 := zIt (zAB HB1.out (HH3.out.later (zAB hb4 hQ.yd.h.below)).below)
      have HY1 := zIt (HP.out.yd.later (zAB hb4 hQ.yd.h.below))
      have HY2 := zIt hQ.yd
      have HSB : Hid (IsObj w4 sb [i64 T, i64 s, i64 so, i64 1, .slice A S.length cp]) := zIt ((HH3.out.later (zAB hb4 hQ.yd.h.below)).has 1 _ rfl : IsObj w4 sb [i64 T, i64 s, i64 so, i64 1, .slice A S.length cp] ∧ _).1
      have HTW := zIt (by have hQ' := hQ.tr; rw [← HL.out] at hQ'; have h := HP.out.tr.times hQ' ⟨rfl, rfl, rfl, rfl, rfl⟩ HTM.out hSl S.length (Nat.le_refl _); rw [List.take_length, HL.out] at h; exact h)
      clear hb4 hQ HH3 HIT q0 q1 q2 q3 q4 HP HTM HGD HFL HB1
      generalize Yf S.length = X at HY1 HTW
      generalize Yg l.length = Z at HY2 HTW
      go_wp2_with fail
      refine (HY1.out.deedsT (by omega) (by show T ≤ 1000; omega)).mono ?_
      rintro r w5 ⟨A5, cp5, tb5, rfl, hb5, hD5⟩
      have HY2' := zIt (HY2.out.later hb5)
      have HB5 := zIt (zAB HB4.out hb5)
      have HD5 := zIt hD5
      have hcap5 := hD5.2.1
      have hx300 : X.ds.length ≤ 300 := by have := HY1.out.ok.nds; have := HY1.out.ok.most; omega
      have h55 := hb5
      clear hb5 hD5 HY1 HY2 HB4
      go_wp2_with fail
      refine (HY2'.out.deedsT (by omega) (by show T ≤ 1000; omega)).mono ?_
      rintro r w6 ⟨A6, cp6, tb6, rfl, hb6, hD6⟩
      have HB6 := zIt (zAB HB5.out hb6)
      replace HSB := zIt ((HSB.out.later h55).later hb6)
      have HX := zIt (HD5.out.less hb6)
      have HZ := zIt hD6
      have hcap6 := hD6.2.1
      have hlen : Z.ds.length = X.ds.length := by rcases HTW.out with ⟨_, h⟩ | ⟨_, L, _, _, h⟩ <;> exact h.ds
      have HDD : Hid (∀ (i : Nat) (d : Dd), X.ds[i]? = some d → ∃ d', Z.ds[i]? = some d' ∧ TimD so d d') := zIt HTW.out.dd
      clear hb6 hD6 HY2' HB5 HD5 HTW
      generalize X.ds = xs at HX hlen hcap5 hx300 HDD ⊢
      generalize Z.ds = zs at HZ hlen hcap6 HDD ⊢
      obtain ⟨n, hn⟩ : ∃ n, xs.length = n := ⟨_, rfl⟩
      rw [hn] at hlen hcap5 HX hx300 ⊢
      rw [hlen] at hcap6 HZ ⊢
      have HN := zIt hn
      have HLZ := zIt hlen
      clear hn hlen
      go_wp2_with fail
      have HDR := HDD
      clear HDD
      go_wp2_with fail
      go_loopw [87] (fun iv wr => ∃ i : Nat, i ≤ n ∧ iv = .int .i64 i ∧ Hid (Below w6.heap.size w6 wr)) (fun iv _ => n - (RowKit.intOf iv).toNat)
      case atStart => exact ⟨0, Nat.zero_le _, rfl, zIt (Below.refl _ _)⟩
      case round =>
        obtain ⟨i, hi, rfl, HBr⟩ := hrel
        rcases Nat.lt_or_ge i n with hil | hil
        · have hil' : (i : Int) < (n : Int) := by omega
          have hge : decide (n ≤ i) = false := decide_eq_false (by omega)
          obtain ⟨d, hd⟩ : ∃ d, xs[i]? = some d := ⟨_, List.getElem?_eq_getElem (by rw [HN.out]; exact hil)⟩
          obtain ⟨d2, hd2, hR⟩ := HDR.out i d hd
          obtain ⟨rfl, hta, hat⟩ := (HX.out.less HBr.out).one0 hd
          obtain ⟨rfl, htb, hbt⟩ := (HZ.out.less HBr.out).one0 hd2
          obtain ⟨d0, d1, d2', d3, d4, d5, d6, d7, d8, d9, d10⟩ := hat
          obtain ⟨e0, e1, e2, e3, e4, e5, e6, e7, e8, e9, e10⟩ := hbt
          clear hd hd2
          have hso2 := ((HSB.out.later HBr.out).at' 2 _ rfl)
          clear hge
          by_cases ho : so < 3
          case pos =>
            have hob : decide (so < 3) = true := decide_eq_true ho
            obtain rfl := hR.all ho
            clear ho hR
            go_wp2_with fail
            refine zAM ((0, true) :: (1, true) :: (2, true) :: (3, true) :: (4, true) :: (5, true) :: (6, true) :: (7, true) :: (8, true) :: (9, true) :: (10, true) :: (11, true) :: (12, true) :: (13, true) :: (14, true) :: (15, true) :: (16, true) :: (17, true) :: (18, true) :: (19, true) :: (20, true) :: (21, true) :: (22, true) :: (23, true) :: (24, true) :: (25, true) :: (26, true) :: (27, true) :: (28, true) :: (29, true) :: (30, true) :: (31, true) :: (32, true) :: (33, true) :: (34, true) :: (35, true) :: (36, true) :: (37, true) :: (38, true) :: (39, true) :: (40, true) :: []) (by kernel_rfl) (by kernel_rfl) (by kernel_rfl) (by decide) (fun _ _ _ _ _ h => h) (fun hHeld => ?_)
            repeat (first
              | (refine zAC (v := ?_) rfl ?_ ?_ ?_; rotate_left 1; rfl; (focus (intro wS hSw; have hk := zAN hSw; go_simp; first | done | with_reducible rfl)); (try simp only [Act.put, List.setIfInBounds_toArray, List.set_cons_zero, List.set_cons_succ]))
              | (refine zAD rfl ?_ ?_; rfl; (try simp only [Act.put, List.setIfInBounds_toArray, List.set_cons_zero, List.set_cons_succ]))
              | (refine zAI rfl (fun K hK => ?_); go_simp; (try skip); (try go_wp2_with fail); refine hK.out _ _ ?_ ?_; (focus (first | exact zAB hHeld hb' | exact zAA hHeld _ | exact hHeld)); (try clear hb'); clear hHeld hK K; intro hHeld; (try simp only [Act.put, List.setIfInBounds_toArray, List.set_cons_zero, List.set_cons_succ])))
            first | refine zAJ ?_ | skip
            have HB7 := zIt (zAB HBr.out hHeld)
            clear hHeld d0 d1 d2' d3 d4 d5 d6 d7 d8 d9 d10 e0 e1 e2 e3 e4 e5 e6 e7 e8 e9 e10
            go_wp2_with fail
            go_roundw
            case rel => exact ⟨i + 1, by omega, by go_num, HB7⟩
            case measure => first | omega | (simp [RowKit.intOf]; done) | (simp [RowKit.intOf]; omega)
          case neg =>
            have hob : decide (so < 3) = false := decide_eq_false ho
            obtain ⟨r1, r2, r3, r4, r5, _⟩ := hR
            rw [r1] at e1
            rw [r2] at e2
            rw [r3] at e3
            rw [r4] at e4
            rw [r5] at e5
            clear ho r1 r2 r3 r4 r5
            go_wp2_with fail
            refine zAM ((0, true) :: (1, true) :: (2, true) :: (3, true) :: (4, true) :: (5, true) :: (6, true) :: (7, true) :: (8, true) :: (9, true) :: (10, true) :: (11, true) :: (12, true) :: (13, true) :: (14, true) :: (15, true) :: (16, true) :: (17, true) :: (18, true) :: (19, true) :: (20, true) :: (21, true) :: (22, true) :: (23, true) :: (24, true) :: (25, true) :: (26, true) :: (27, true) :: (28, true) :: (29, true) :: (30, true) :: (31, true) :: (32, true) :: (33, true) :: (34, true) :: (35, true) :: (36, true) :: (37, true) :: (38, true) :: (39, true) :: (40, true) :: []) (by kernel_rfl) (by kernel_rfl) (by kernel_rfl) (by decide) (fun _ _ _ _ _ h => h) (fun hHeld => ?_)
            repeat (first
              | (refine zAC (v := ?_) rfl ?_ ?_ ?_; rotate_left 1; rfl; (focus (intro wS hSw; have hk := zAN hSw; go_simp; first | done | with_reducible rfl)); (try simp only [Act.put, List.setIfInBounds_toArray, List.set_cons_zero, List.set_cons_succ]))
              | (refine zAD rfl ?_ ?_; rfl; (try simp only [Act.put, List.setIfInBounds_toArray, List.set_cons_zero, List.set_cons_succ]))
              | (refine zAI rfl (fun K hK => ?_); go_simp; (try skip); (try go_wp2_with fail); refine hK.out _ _ ?_ ?_; (focus (first | exact zAB hHeld hb' | exact zAA hHeld _ | exact hHeld)); (try clear hb'); clear hHeld hK K; intro hHeld; (try simp only [Act.put, List.setIfInBounds_toArray, List.set_cons_zero, List.set_cons_succ])))
            first | refine zAJ ?_ | skip
            have HB7 := zIt (zAB HBr.out hHeld)
            clear hHeld d0 d1 d2' d3 d4 d5 d6 d7 d8 d9 d10 e0 e1 e2 e3 e4 e5 e6 e7 e8 e9 e10
            go_wp2_with fail
            go_roundw
            case rel => exact ⟨i + 1, by omega, by go_num, HB7⟩
            case measure => first | omega | (simp [RowKit.intOf]; done) | (simp [RowKit.intOf]; omega)
        · obtain rfl : i = n := by omega
          have hnn : ¬ (i : Int) < (i : Int) := by omega
          have HZ9 := zIt (zAB HB6.out HBr.out)
          go_wp2_with fail
          go_ret
          exact ⟨rfl, HZ9.out⟩

end Go.Proofs.YtpfjommkjkbonabGreat
