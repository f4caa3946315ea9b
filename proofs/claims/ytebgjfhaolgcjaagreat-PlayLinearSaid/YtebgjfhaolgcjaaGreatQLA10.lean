/- Contracts and plain lemmas that these laws need. No condition. -/

import Derived.Test.YtebgjfhaolgcjaaGreatQLA1
import Derived.Test.YtebgjfhaolgcjaaGreatQLA8
import Derived.Test.YtebgjfhaolgcjaaGreatQLA9
namespace Go.Proofs.YtebgjfhaolgcjaaGreat
set_option linter.unusedVariables false
set_option maxHeartbeats 8000000
set_option maxRecDepth 100000
section
open Go.RowKit
theorem zDg (md most T : Int) (a5 : Option Addr) (cap : Nat) (V : List LM) (w : World) (hV : RowL w a5 cap V) (hl : V.length ≤ 300) (hm : md = 0 ∨ md = 1) (hT1 : 1 ≤ T) :
  Calls Tryz.prog 20 #[.int .i64 md, .int .i64 most, .slice a5 V.length cap, .int .i64 T] w fun r w' => ∃ B c S, r = .returned (.slice B S.length c) ∧ Below w.heap.size w w' ∧ w'.ownsRow w.heap.size 39 7 (.slice B S.length c) S.length (flatM S) ∧ S.length ≤ V.length ∧ FewOk md S := by
 have HV := zIW hV
 have hTn : ¬ T = 0 := by omega
 have HM := zIW hm
 clear hV hm
 have HH0 := zIW ((Hold.nil (Below.refl w.heap.size w)).more (A := tRow w.heap.size 39 7 (.slice (some ⟨w.heap.size, 0, none⟩) 0 0) 0 []) (zAA (Below.refl _ _) (.cells #[] 39)) (zA9 _ _ _ _ _ _) (zGN w w.heap.size 39 7 (Nat.le_refl _)) zHR)
 go_enter Tryz.func20, Tryz.ntmps20
 go_wp2_with fail
 go_loopw [9, 10, 17] (fun av nv iv wr => ∃ (i q : Nat) (A1 : Option Addr) (cp1 : Nat) (l : List CM), i ≤ V.length ∧ q ≤ i ∧ l.length ≤ i ∧ av = .slice A1 l.length cp1 ∧ nv = .int .i64 q ∧ iv = .int .i64 i ∧ Hid (Hold w wr [tRow w.heap.size 39 7 (.slice A1 l.length cp1) l.length (flatM l)]) ∧ Hid (FewOk md l)) (fun _ _ iv _ => V.length - (RowKit.intOf iv).toNat)
 case atStart => exact ⟨0, 0, some ⟨w.heap.size, 0, none⟩, 0, [], Nat.zero_le _, Nat.zero_le _, Nat.zero_le _, rfl, rfl, rfl, HH0, zIW (fun m hm => by cases hm)⟩
 case round =>
  clear HH0
  obtain ⟨i, q, A1, cp1, l, hi, hq, hll, rfl, rfl, rfl, HH, HF⟩ := hrel
  rcases Nat.lt_or_ge i V.length with hil | hil
  ·have hil' : (i : Int) < (V.length : Int) := by omega
   obtain ⟨v, hv⟩ : ∃ v, V[i]? = some v := ⟨_, List.getElem?_eq_getElem hil⟩
   obtain ⟨b, off, rfl, hat⟩ := HV.out.at' i v hv
   have HMF := zIW (LM.make_fit (HV.out.fit v (List.mem_of_getElem? hv)))
   obtain ⟨e0, e1, e2, e3, e4, e5, e6, e7⟩ := hat.later (HH.out.below)
   have hcap := HV.out.cap
   clear hat hv
   have HHa := zIW (HH.out.later (zAA (Below.refl _ _) (v.obj 32)))
   go_wp2_with fail
   refine (zBj v _).mono ?_
   rintro r w3 ⟨rfl, hb3⟩
   have HHb := zIW (HHa.out.later hb3)
   clear hb3 HHa HH e0 e1 e2 e3 e4 e5 e6 e7
   generalize v.make = m at HMF ⊢
   obtain ⟨k, who, ck, ce, x, stt, n⟩ := m
   obtain ⟨y, hy⟩ : ∃ y, (bits BinOp.and IntKind.i64 who 65535).tmod T = y := ⟨_, rfl⟩
   have HX := zIW (show 0 ≤ x ∧ x ≤ 18446744073709551615 from HMF.out)
   by_cases hk : k = 0
   case neg =>
    have hkb : (k == 0) = false := beq_false_of_ne hk
    have HK := zIW hk
    clear hk
    have HLa := zIW ((HHb.out.later (zAA (Below.refl _ _) ((⟨k, y, ck, ce, x, stt, n⟩ : CM).obj 39))).later (zAA (Below.refl _ _) ((⟨k, y, ck, ce, x, stt, n⟩ : CM).obj 39)))
    go_wp2_with (at_builtin; go_loud (refine zAM rfl _ _ 27 rfl w.heap.size 39 _ 7 56 zEO (.slice A1 l.length cp1) l.length (flatM l) rfl (HLa.out.has 0 _ rfl) (some ⟨_, 0, none⟩) 1 1 (⟨k, y, ck, ce, x, stt, n⟩ : CM).list rfl (zEM _ _ ⟨k, y, ck, ce, x, stt, n⟩ (by simp)) (by unfold maxLen; omega) (by omega) HLa.out.size ?_); intro v' w8 hG; go_loud (obtain ⟨A3, cp3, rfl⟩ := zAN hG.own; have HH8 := zIW (HLa.out.append 0 rfl rfl hG); clear hG))
    go_roundw
    case rel =>
     refine ⟨i + 1, q, A3, cp3, l ++ [⟨k, y, ck, ce, x, stt, n⟩], by omega, by omega, by rw [List.length_append, List.length_singleton]; omega, by rw [List.length_append, List.length_singleton], rfl, by go_num, zIW ?_, zIW (HF.out.snoc (m := ⟨k, y, ck, ce, x, stt, n⟩) HX.out (fun h => absurd h HK.out))⟩
     have h := HH8.out
     rw [List.length_append, List.length_singleton, zAw, show flatM [(⟨k, y, ck, ce, x, stt, n⟩ : CM)] = (⟨k, y, ck, ce, x, stt, n⟩ : CM).list by rw [flatM, flatM, List.append_nil]]
     exact h
    case measure => first | omega | (simp [RowKit.intOf]; done) | (simp [RowKit.intOf]; omega)
   case pos =>
   subst hk
   by_cases hq2 : (q : Int) = most
   case pos =>
    have hqb : ((q : Int) == most) = true := by rw [hq2]; exact beq_self_eq_true _
    have HHn := zIW (HHb.out.later (zAA (Below.refl _ _) ((⟨0, y, ck, ce, x, stt, n⟩ : CM).obj 39)))
    clear hq2
    go_wp2_with fail
    go_roundw
    case rel => exact ⟨i + 1, q, A1, cp1, l, by omega, by omega, by omega, rfl, rfl, by go_num, HHn, HF⟩
    case measure => first | omega | (simp [RowKit.intOf]; done) | (simp [RowKit.intOf]; omega)
   case neg =>
    have hqb : ((q : Int) == most) = false := beq_false_of_ne hq2
    clear hq2
    have HHs := zIW (HHb.out.more (A := tObj w.heap.size w3.heap.size [i64 0, i64 y, i64 ck, i64 ce, .int .u64 x, i64 stt, i64 n]) (zAA (Below.refl _ _) ((⟨0, y, ck, ce, x, stt, n⟩ : CM).obj 39)) (zAV _ _ _) ⟨IsObj.made w3 [i64 0, i64 y, i64 ck, i64 ce, .int .u64 x, i64 stt, i64 n] 39, HHb.out.size⟩ (fun q hq => by cases hq; exact Nat.le_refl _))
    clear HHb
    go_wp2_with fail
    generalize w3.alloc (.cells #[.int .i64 0, .int .i64 y, .int .i64 ck, .int .i64 ce, .int .u64 x, .int .i64 stt, .int .i64 n] 39) = wm at HHs ⊢
    generalize w3.heap.size = mb at HHs ⊢
    refine (zFK md ck ce x stt _ HM.out).mono ?_
    rintro r w5 ⟨rfl, hb5⟩
    have HH5 := zIW (HHs.out.later hb5)
    clear HHs hb5
    have hmo := (HH5.out.has 1 _ rfl : IsObj w5 mb [i64 0, i64 y, i64 ck, i64 ce, .int .u64 x, i64 stt, i64 n] ∧ _).1
    obtain ⟨c0, c1, c2, c3, c4, c5, c6⟩ : _ ∧ _ ∧ _ ∧ _ ∧ _ ∧ _ ∧ _ := ⟨hmo.at' 0 _ rfl, hmo.at' 1 _ rfl, hmo.at' 2 _ rfl, hmo.at' 3 _ rfl, hmo.at' 4 _ rfl, hmo.at' 5 _ rfl, hmo.at' 6 _ rfl⟩
    have f2 := hmo.fz 2
    have f3 := hmo.fz 3
    have f4 := hmo.fz 4
    have f5 := hmo.fz 5
    have hml := hmo.lt
    obtain ⟨ne, hne⟩ : ∃ ne, modeE md ck = ne := ⟨_, rfl⟩
    have HNE := zIW hne
    rw [hne]
    have HH6 := zIW (HH5.out.ob4 1 rfl (i64 ck) (i64 ne) (.int .u64 x) (i64 stt))
    clear hmo hne
    go_upto_if 45 with fail
    clear HH5 c0 c1 c2 c3 c4 c5 f2 f3 f4 f5
    by_cases hc : ck = 0
    case neg =>
     have hcb : (ck == 0) = false := beq_false_of_ne hc
     clear hc
     generalize hW6 : ((((w5.setCell { block := mb, off := 2 } (Value.int IntKind.i64 ck)).setCell { block := mb, off := 3 } (Value.int IntKind.i64 ne)).setCell { block := mb, off := 4 } (Value.int IntKind.u64 x)).setCell { block := mb, off := 5 } (Value.int IntKind.i64 stt)) = w6 at HH6 ⊢
     clear hW6 c6 hml
     have hmo := (HH6.out.has 1 _ rfl : IsObj w6 mb [i64 0, i64 y, i64 ck, i64 ne, Value.int IntKind.u64 x, i64 stt, i64 n] ∧ _).1
     obtain ⟨c0, c1, c2, c3, c4, c5, c6⟩ : _ ∧ _ ∧ _ ∧ _ ∧ _ ∧ _ ∧ _ := ⟨hmo.at' 0 _ rfl, hmo.at' 1 _ rfl, hmo.at' 2 _ rfl, hmo.at' 3 _ rfl, hmo.at' 4 _ rfl, hmo.at' 5 _ rfl, hmo.at' 6 _ rfl⟩
     clear hmo
     have HLa := zIW (HH6.out.later (zAA (Below.refl _ _) ((⟨0, y, ck, ne, x, stt, n⟩ : CM).obj 39)))
     go_wp2_with (at_builtin; go_loud (refine zAM rfl _ _ 27 rfl w.heap.size 39 _ 7 56 zEO (.slice A1 l.length cp1) l.length (flatM l) rfl (HLa.out.has 0 _ rfl) (some ⟨_, 0, none⟩) 1 1 (⟨0, y, ck, ne, x, stt, n⟩ : CM).list rfl (zEM _ _ ⟨0, y, ck, ne, x, stt, n⟩ (by simp)) (by unfold maxLen; omega) (by omega) HLa.out.size ?_); intro v' w8 hG; go_loud (obtain ⟨A3, cp3, rfl⟩ := zAN hG.own; have HH8 := zIW (HLa.out.append 0 rfl rfl hG); clear hG))
     go_roundw
     case rel =>
      refine ⟨i + 1, q + 1, A3, cp3, l ++ [⟨0, y, ck, ne, x, stt, n⟩], by omega, by omega, by rw [List.length_append, List.length_singleton]; omega, by rw [List.length_append, List.length_singleton], by go_num, by go_num, zIW ?_, zIW (HF.out.snoc (m := ⟨0, y, ck, ne, x, stt, n⟩) HX.out (fun _ => HNE.out.symm))⟩
      have h := HH8.out.less (m := [_]) (l := [_])
      rw [List.length_append, List.length_singleton, zAw, show flatM [(⟨0, y, ck, ne, x, stt, n⟩ : CM)] = (⟨0, y, ck, ne, x, stt, n⟩ : CM).list by rw [flatM, flatM, List.append_nil]]
      exact h
     case measure => first | omega | (simp [RowKit.intOf]; done) | (simp [RowKit.intOf]; omega)
    case pos =>
     subst hc
     obtain ⟨x2, hx2⟩ : ∃ x2, IntKind.u64.wrap (100 + ((q : Int) + 1)) = x2 := ⟨_, rfl⟩
     have HX2 : Hid (0 ≤ x2 ∧ x2 ≤ 18446744073709551615) := zIW (by rw [← hx2, IntKind.wrap_u64]; omega)
     generalize hW6 : ((((w5.setCell { block := mb, off := 2 } (Value.int IntKind.i64 0)).setCell { block := mb, off := 3 } (Value.int IntKind.i64 ne)).setCell { block := mb, off := 4 } (Value.int IntKind.u64 x)).setCell { block := mb, off := 5 } (Value.int IntKind.i64 stt)) = w6 at HH6 ⊢
     clear hW6 c6 hml
     have hmo := (HH6.out.has 1 _ rfl : IsObj w6 mb [i64 0, i64 y, i64 0, i64 ne, Value.int IntKind.u64 x, i64 stt, i64 n] ∧ _).1
     obtain ⟨c0, c1, c2, c3, c4, c5, c6⟩ : _ ∧ _ ∧ _ ∧ _ ∧ _ ∧ _ ∧ _ := ⟨hmo.at' 0 _ rfl, hmo.at' 1 _ rfl, hmo.at' 2 _ rfl, hmo.at' 3 _ rfl, hmo.at' 4 _ rfl, hmo.at' 5 _ rfl, hmo.at' 6 _ rfl⟩
     have f4 := hmo.fz 4
     have hml := hmo.lt
     clear hmo
     have HLa := zIW ((HH6.out.cdSet 1 rfl 4 (.int .u64 x2)).later (zAA (Below.refl _ _) ((⟨0, y, 0, ne, x2, stt, n⟩ : CM).obj 39)))
     go_wp2_with (at_builtin; go_loud (refine zAM rfl _ _ 27 rfl w.heap.size 39 _ 7 56 zEO (.slice A1 l.length cp1) l.length (flatM l) rfl (HLa.out.has 0 _ rfl) (some ⟨_, 0, none⟩) 1 1 (⟨0, y, 0, ne, x2, stt, n⟩ : CM).list rfl (zEM _ _ ⟨0, y, 0, ne, x2, stt, n⟩ (by simp)) (by unfold maxLen; omega) (by omega) HLa.out.size ?_); intro v' w8 hG; go_loud (obtain ⟨A3, cp3, rfl⟩ := zAN hG.own; have HH8 := zIW (HLa.out.append 0 rfl rfl hG); clear hG))
     go_roundw
     case rel =>
      refine ⟨i + 1, q + 1, A3, cp3, l ++ [⟨0, y, 0, ne, x2, stt, n⟩], by omega, by omega, by rw [List.length_append, List.length_singleton]; omega, by rw [List.length_append, List.length_singleton], by go_num, by go_num, zIW ?_, zIW (HF.out.snoc (m := ⟨0, y, 0, ne, x2, stt, n⟩) HX2.out (fun _ => HNE.out.symm))⟩
      have h := HH8.out.less (m := [_]) (l := [_])
      rw [List.length_append, List.length_singleton, zAw, show flatM [(⟨0, y, 0, ne, x2, stt, n⟩ : CM)] = (⟨0, y, 0, ne, x2, stt, n⟩ : CM).list by rw [flatM, flatM, List.append_nil]]
      exact h
     case measure => first | omega | (simp [RowKit.intOf]; done) | (simp [RowKit.intOf]; omega)
  ·obtain rfl : i = V.length := by omega
   have hnn : ¬ (V.length : Int) < (V.length : Int) := by omega
   have hrow : wr.ownsRow w.heap.size 39 7 (.slice A1 l.length cp1) l.length (flatM l) := HH.out.has 0 _ rfl
   have HR := zIW hrow
   clear hrow
   go_wp2_with fail
   go_ret
   exact ⟨A1, cp1, l, rfl, HH.out.below, HR.out, hll, HF.out⟩
end
section
open Go.RowKit
def topEnd (mode : Int) (b : CM) : Int := if mode < 2 then (if mode = 1 ∧ b.ck = 1 then 0 else 1) else b.ce
def topOne (T mode most : Int) (st : Int × Int × List CM) (v : LM) : Int × Int × List CM :=
 if v.base.k = 0 then
  if st.1 = most then st
  else if v.base.ck = 0 then (st.1 + 1, st.2.1 + 1, st.2.2 ++ [{ v.base with who := v.base.who % T, ce := topEnd mode v.base, v := 100 + (st.2.1 + 1) }])
  else (st.1 + 1, st.2.1, st.2.2 ++ [{ v.base with who := v.base.who % T, ce := topEnd mode v.base }])
 else if v.base.k = 2 then (st.1, st.2.1, st.2.2 ++ [v.base])
 else (st.1, st.2.1, st.2.2 ++ [{ v.base with who := v.base.who % T }])
def topS (T mode most : Int) (V : List LM) : Int × Int × List CM := V.foldl (topOne T mode most) (0, 0, [])
structure TopOk (T : Int) (st : Int × Int × List CM) (n : Nat) : Prop where
 c0 : 0 ≤ st.1
 c1 : st.1 ≤ n
 p0 : 0 ≤ st.2.1
 p1 : st.2.1 ≤ n
 len : st.2.2.length ≤ n
 right : ∀ m ∈ st.2.2, m.Good
 who : ∀ m ∈ st.2.2, m.k ≠ 2 → m.who < T
 has : ∀ m ∈ st.2.2, m.k = 0 → m.ck = 0 → 100 < m.v ∧ m.v ≤ 100 + st.2.1
 own : st.2.2.Pairwise (fun a b => a.k = 0 → a.ck = 0 → b.k = 0 → b.ck = 0 → a.v < b.v)
theorem LM.base_beg {v : LM} (h : v.base.k = 0) : 0 ≤ v.base.who ∧ v.base.who < 64 ∧ v.base.n = 0 ∧ (v.base.ce = 0 ∨ v.base.ce = 1) ∧ ((v.base.ck = 0 ∧ v.base.st = 0) ∨ (v.base.ck = 1 ∧ v.base.v = 0 ∧ 0 ≤ v.base.st ∧ v.base.st ≤ 255)) := by
 unfold LM.base at h ⊢
 split
 ·split
  ·refine ⟨by show 0 ≤ v.who % 64; omega, by show v.who % 64 < 64; omega, rfl, ?_, .inr ⟨rfl, rfl, by show 0 ≤ v.start % 256; omega, by show v.start % 256 ≤ 255; omega⟩⟩
   cases v.right
   ·exact .inl rfl
   ·exact .inr rfl
  ·refine ⟨by show 0 ≤ v.who % 64; omega, by show v.who % 64 < 64; omega, rfl, ?_, .inl ⟨rfl, rfl⟩⟩
   cases v.right
   ·exact .inl rfl
   ·exact .inr rfl
 ·rename_i h0
  rw [if_neg h0] at h
  split at h
  ·exact absurd (show (2 : Int) = 0 from h) (by decide)
  ·exact absurd (show (1 : Int) = 0 from h) (by decide)
theorem LM.base_rest {v : LM} (h : v.base.k ≠ 0) : (v.base.k = 1 ∧ v.base = ⟨1, v.who % 64, 0, 0, 0, 0, 0⟩) ∨ (v.base.k = 2 ∧ v.base = ⟨2, 0, 0, 0, 0, 0, 1 + v.n % 32768⟩) := by
 unfold LM.base at h ⊢
 split
 ·rename_i h0
  rw [if_pos h0] at h
  split at h
  ·exact absurd rfl h
  ·exact absurd rfl h
 ·split
  ·exact .inr ⟨rfl, rfl⟩
  ·exact .inl ⟨rfl, rfl⟩
theorem zFc (mode : Int) {b : CM} (h : b.ce = 0 ∨ b.ce = 1) : topEnd mode b = 0 ∨ topEnd mode b = 1 := by
 unfold topEnd
 split
 ·split
  ·exact .inl rfl
  ·exact .inr rfl
 ·exact h
theorem TopOk.start (T : Int) : TopOk T (0, 0, []) 0 :=
 ⟨Int.le_refl _, Int.le_refl _, Int.le_refl _, Int.le_refl _, Nat.le_refl _, fun m hm => absurd hm List.not_mem_nil, fun m hm => absurd hm List.not_mem_nil, fun m hm => absurd hm List.not_mem_nil, List.Pairwise.nil⟩
theorem TopOk.more {T : Int} {c p c' p' : Int} {l : List CM} {n : Nat} (h : TopOk T (c, p, l) n) {m : CM} (hc : c ≤ c' ∧ c' ≤ c + 1) (hp : p ≤ p' ∧ p' ≤ p + 1) (hg : m.Good) (hw : m.k ≠ 2 → m.who < T) (hv : m.k = 0 → m.ck = 0 → m.v = 100 + p' ∧ p' = p + 1) : TopOk T (c', p', l ++ [m]) (n + 1) := by
 obtain ⟨h1, h2, h3, h4, h5, h6, h7, h8, h9⟩ := h
 simp only at h1 h2 h3 h4 h5 h6 h7 h8 h9
 refine ⟨by show 0 ≤ c'; omega, by show c' ≤ ((n + 1 : Nat) : Int); omega, by show 0 ≤ p'; omega, by show p' ≤ ((n + 1 : Nat) : Int); omega, by show (l ++ [m]).length ≤ n + 1; rw [List.length_append, List.length_singleton]; omega, fun x hx => ?_, fun x hx => ?_, fun x hx => ?_, ?_⟩
 ·rcases List.mem_append.1 hx with hx | hx
  ·exact h6 x hx
  ·rw [List.mem_singleton.1 hx]; exact hg
 ·rcases List.mem_append.1 hx with hx | hx
  ·exact h7 x hx
  ·rw [List.mem_singleton.1 hx]; exact hw
 ·intro k0 ck0
  show 100 < x.v ∧ x.v ≤ 100 + p'
  rcases List.mem_append.1 hx with hx | hx
  ·have := h8 x hx k0 ck0
   omega
  ·rw [List.mem_singleton.1 hx] at k0 ck0 ⊢
   have := hv k0 ck0
   omega
 ·show (l ++ [m]).Pairwise _
  rw [List.pairwise_append]
  refine ⟨h9, List.pairwise_singleton _ _, fun a ha b hb k0 ck0 k1 ck1 => ?_⟩
  rw [List.mem_singleton.1 hb] at k1 ck1 ⊢
  have e1 := h8 a ha k0 ck0
  have e2 := hv k1 ck1
  omega
theorem TopOk.next {T mode most : Int} {st : Int × Int × List CM} {n : Nat} (h : TopOk T st n) (hT : 0 < T) (hT2 : T ≤ 64) (hn : n < 1000000) (v : LM) : TopOk T (topOne T mode most st v) (n + 1) := by
 obtain ⟨c, p, l⟩ := st
 have hsame : TopOk T (c, p, l) (n + 1) := ⟨h.c0, by have := h.c1; simp only at this ⊢; omega, h.p0, by have := h.p1; simp only at this ⊢; omega, by have := h.len; simp only at this ⊢; omega, h.right, h.who, h.has, h.own⟩
 have p0 : 0 ≤ p := h.p0
 have p1 : p ≤ n := h.p1
 have hw : ∀ {x : Int}, 0 ≤ x → x < 64 → 0 ≤ x % T ∧ x % T < T := fun {x} _ _ => ⟨Int.emod_nonneg _ (by omega), Int.emod_lt_of_pos _ hT⟩
 unfold topOne
 simp only
 by_cases hk : v.base.k = 0
 ·rw [if_pos hk]
  obtain ⟨b1, b2, b3, b4, b5⟩ := LM.base_beg hk
  obtain ⟨w1, w2⟩ := hw b1 b2
  have he := zFc mode b4
  split
  ·exact hsame
  ·split
   ·rename_i hck
    refine h.more (by omega) (by omega) ⟨.inl ⟨hk, w1, by show v.base.who % T < 64; omega, b3, he, .inl ⟨hck, ?_⟩⟩, by show 0 ≤ 100 + (p + 1); omega, by show 100 + (p + 1) ≤ 18446744073709551615; omega⟩ (fun _ => w2) (fun _ _ => ⟨rfl, rfl⟩)
    show v.base.st = 0
    omega
   ·rename_i hck
    have b6 : v.base.ck = 1 ∧ v.base.v = 0 ∧ 0 ≤ v.base.st ∧ v.base.st ≤ 255 := by omega
    exact h.more (by omega) (by omega) ⟨.inl ⟨hk, w1, by show v.base.who % T < 64; omega, b3, he, .inr b6⟩, by show 0 ≤ v.base.v; omega, by show v.base.v ≤ 18446744073709551615; omega⟩ (fun _ => w2) (fun _ hc => absurd hc hck)
 ·rw [if_neg hk]
  rcases LM.base_rest hk with ⟨h1, h2⟩ | ⟨h1, h2⟩
  ·rw [if_neg (by omega)]
   have w0 : 0 ≤ v.base.who ∧ v.base.who < 64 := by rw [h2]; show 0 ≤ v.who % 64 ∧ v.who % 64 < 64; omega
   obtain ⟨w1, w2⟩ := hw w0.1 w0.2
   refine h.more (by omega) (by omega) ⟨.inr (.inl ⟨h1, w1, by show v.base.who % T < 64; omega, ?_⟩), ?_⟩ (fun _ => w2) (fun h0 => absurd h0 hk)
   ·rw [h2]
    exact ⟨rfl, rfl, rfl, rfl, rfl⟩
   ·rw [h2]
    exact ⟨Int.le_refl _, by show (0 : Int) ≤ 18446744073709551615; decide⟩
  ·rw [if_pos h1]
   refine h.more (by omega) (by omega) ?_ (fun h3 => absurd h1 h3) (fun h0 => absurd h0 hk)
   rw [h2]
   exact ⟨.inr (.inr ⟨rfl, rfl, rfl, rfl, rfl, rfl, by show 1 ≤ 1 + v.n % 32768; omega, by show 1 + v.n % 32768 ≤ 65535; omega⟩), Int.le_refl _, by show (0 : Int) ≤ 18446744073709551615; decide⟩
theorem TopOk.fold {T mode most : Int} (hT : 0 < T) (hT2 : T ≤ 64) : ∀ (V : List LM) (st : Int × Int × List CM) (n : Nat), TopOk T st n → n + V.length < 1000000 → TopOk T (V.foldl (topOne T mode most) st) (n + V.length)
 | [], st, n, h, _ => h
 | v :: V, st, n, h, hl => by
  rw [List.length_cons] at hl ⊢
  have h1 := TopOk.fold (mode := mode) (most := most) hT hT2 V (topOne T mode most st v) (n + 1) (h.next hT hT2 (by omega) v) (by omega)
  rw [show n + 1 + V.length = n + (V.length + 1) by omega] at h1
  exact h1
theorem TopOk.of {T : Int} (mode most : Int) (hT : 0 < T) (hT2 : T ≤ 64) (V : List LM) (hl : V.length < 1000000) : TopOk T (topS T mode most V) V.length := by
 have h := TopOk.fold (mode := mode) (most := most) hT hT2 V (0, 0, []) 0 (TopOk.start T) (by omega)
 rw [Nat.zero_add] at h
 exact h
end
section
open Go.RowKit
section
variable {T mode most c p : Int} {l : List CM} {v : LM}
end
structure TopSc (w : World) (r : Ending) (w' : World) (T s so d : Int) (A : Option Addr) (cp : Nat) (S : List CM) : Prop where
 ret : r = .returned (.tuple #[scV T s so d (.slice A S.length cp), .bool true])
 below : Below w.heap.size w w'
 row : w'.ownsRow w.heap.size 39 7 (.slice A S.length cp) S.length (flatM S)
end
section
open Go.RowKit
structure PBy (w : World) (l : List Int) (r : Ending) (w' : World) (T : Nat) (s so d : Int) (N : Nat) (ms : List CM) (W : World) (lx : List Thing) (yb ytb p c : Nat) (Yf : Nat → Yd) (An : List Int) (J : Nat → Nat) (g : Nat) : Prop where
 is : l = (T : Int) :: s :: so :: d :: encs ms
 good : ∀ m ∈ ms, m.Good
 few : ms.length ≤ 65536
 right : rightC T s so d = true
 lay : Lay T s N
 ret : r = .returned (.tuple #[pt yb, .slice (some ⟨g, 0, none⟩) ms.length ms.length, i64 0])
 below : Below w.heap.size w W
 run : PRn W w' lx ⟨yb, ytb, p, c, T, s, so, d, T⟩ N ms Yf An J g
end
section
open Go.RowKit
def wasRead (N st r j : Nat) : Prop := ∃ q, q < r ∧ (st + q) % N = j
theorem zEI {N st r j : Nat} (hs : st < N) (hr : r + 1 = N) (hj : j < N) : wasRead N st r j ∨ j = (st + r) % N := by
 by_cases h1 : st ≤ j
 ·by_cases h2 : j - st = r
  ·right
   rw [show st + r = j by omega, Nat.mod_eq_of_lt hj]
  ·exact .inl ⟨j - st, by omega, by rw [show st + (j - st) = j by omega, Nat.mod_eq_of_lt hj]⟩
 ·have e : (st + (j + N - st)) % N = j := by rw [show st + (j + N - st) = j + N by omega, Nat.add_mod_right, Nat.mod_eq_of_lt hj]
  by_cases h2 : j + N - st = r
  ·right
   rw [← h2, e]
  ·exact .inl ⟨j + N - st, by omega, e⟩
structure SnM (Y : Nat → Yd) (N : Nat) (k : Sn) (f b : Nat) : Prop where
 ex : ∃ st r P c, SnAt k N st r P ∧ k.ph = 0 ∧ f ≤ c ∧ c ≤ b ∧
  (∀ j, j < N → wasRead N st r j → ∃ a, c ≤ a ∧ a ≤ b ∧ k.X.getD j 0 = (Y a).C.getD j 0) ∧
  (∀ j, j < N → 1 ≤ P → (wasRead N st r j → k.turned = false) → ∃ a, f ≤ a ∧ a ≤ c ∧ k.X.getD j 0 = (Y a).C.getD j 0)
section
variable {Y : Nat → Yd} {N f b : Nat} {k : Sn}
theorem SnM.later (h : SnM Y N k f b) : SnM Y N k f (b + 1) := by
 obtain ⟨st, r, P, c, h1, h2, h3, h4, h5, h6⟩ := h.ex
 exact ⟨st, r, P, c, h1, h2, h3, by omega, fun j hj hr => by obtain ⟨a, a1, a2, a3⟩ := h5 j hj hr; exact ⟨a, a1, by omega, a3⟩, h6⟩
theorem SnM.start (t s so d who : Int) (st : Nat) (hs : st < N) (hf : f ≤ b) : SnM Y N (sn0 t s so d who st N) f b :=
 ⟨st, 0, 0, b, zHj t s so d who N st hs, rfl, hf, Nat.le_refl _, fun j hj ⟨q, hq, _⟩ => by omega, fun j hj hP => by omega⟩
theorem SnM.step (h : SnM Y N k f b) (hst : ∀ {j : Nat}, j < N → ∀ {a c e : Nat}, a ≤ c → c ≤ e → e ≤ b → (Y a).C.getD j 0 = (Y e).C.getD j 0 → (Y c).C.getD j 0 = (Y a).C.getD j 0) :
  SnM Y N (k.step (Y b).C) f (b + 1) ∨ ((k.step (Y b).C).ph = 1 ∧ (k.step (Y b).C).X.length = N ∧ ∃ c, f ≤ c ∧ c ≤ b ∧ ∀ j, j < N → (k.step (Y b).C).X.getD j 0 = (Y c).C.getD j 0) := by
 obtain ⟨st, r, P, c, h1, h2, h3, h4, h5, h6⟩ := h.ex
 have hsl := h1.slot
 have hlt := h1.slot_lt
 have hX := h1.X
 have hr1 := h1.r1
 have row : ∀ j, (k.X.set k.slot ((Y b).C.getD k.slot 0)).getD j 0 = if j = (st + r) % N then (Y b).C.getD j 0 else k.X.getD j 0 := fun j => by
  rw [zBw _ _ _ _ (by omega), hsl]
  by_cases hq : (st + r) % N = j
  ·rw [if_pos hq, if_pos hq.symm, hq]
  ·rw [if_neg hq, if_neg (fun e => hq e.symm)]
 have turned : (k.turned || decide ((Y b).C.getD k.slot 0 ≠ k.X.getD k.slot 0)) = false → k.turned = false ∧ (Y b).C.getD ((st + r) % N) 0 = k.X.getD ((st + r) % N) 0 := fun hq => by
  rw [Bool.or_eq_false_iff] at hq
  refine ⟨hq.1, ?_⟩
  have h7 := of_decide_eq_false hq.2
  rw [hsl] at h7
  exact Classical.not_not.1 h7
 have cur : ∀ j, j < N → (wasRead N st r j ∨ j = (st + r) % N) → ∃ a, c ≤ a ∧ a ≤ b ∧ (k.X.set k.slot ((Y b).C.getD k.slot 0)).getD j 0 = (Y a).C.getD j 0 := fun j hj hw => by
  rw [row j]
  by_cases hq : j = (st + r) % N
  ·rw [if_pos hq]
   exact ⟨b, h4, Nat.le_refl _, rfl⟩
  ·rw [if_neg hq]
   rcases hw with hw | hw
   ·exact h5 j hj hw
   ·exact absurd hw hq
 have old : ∀ j, j < N → 1 ≤ P → ((wasRead N st r j ∨ j = (st + r) % N) → (k.turned || decide ((Y b).C.getD k.slot 0 ≠ k.X.getD k.slot 0)) = false) → ∃ a, f ≤ a ∧ a ≤ c ∧ (k.X.set k.slot ((Y b).C.getD k.slot 0)).getD j 0 = (Y a).C.getD j 0 := fun j hj hP ht => by
  rw [row j]
  by_cases hq : j = (st + r) % N
  ·rw [if_pos hq]
   obtain ⟨t1, t2⟩ := turned (ht (.inr hq))
   rw [hq, t2]
   exact h6 _ (by omega) hP (fun _ => t1)
  ·rw [if_neg hq]
   exact h6 j hj hP (fun hw => (turned (ht (.inl hw))).1)
 have hread : k.read = (r : Int) := h1.read
 have hkN : (k.N : Int) = (N : Int) := by rw [h1.hN]
 by_cases hlast : r + 1 = N
 ·have e : k.step (Y b).C = (k.put ((Y b).C.getD k.slot 0)).fin := by
   unfold Sn.step
   rw [if_pos h2, if_pos (by omega)]
  have hall : ∀ j, j < N → (wasRead N st r j ∨ j = (st + r) % N) := fun j hj => zEI h1.s1 hlast hj
  rw [e]
  have hpass := h1.passes
  by_cases hend : 1 < k.passes + 1 ∧ (k.turned || decide ((Y b).C.getD k.slot 0 ≠ k.X.getD k.slot 0)) = false
  ·right
   refine ⟨by show (if 1 < k.passes + 1 ∧ (k.turned || decide ((Y b).C.getD k.slot 0 ≠ k.X.getD k.slot 0)) = false then (1 : Int) else k.ph) = 1; rw [if_pos hend], by show (k.X.set _ _).length = N; rw [List.length_set]; exact hX, c, h3, h4, fun j hj => ?_⟩
   obtain ⟨a1, p1, p2, p3⟩ := cur j hj (hall j hj)
   obtain ⟨a2, q1, q2, q3⟩ := old j hj (by omega) (fun _ => hend.2)
   have hh := hst hj q2 p1 p2 (q3.symm.trans p3)
   show (k.X.set k.slot ((Y b).C.getD k.slot 0)).getD j 0 = _
   rw [hh]
   exact q3
  ·left
   refine ⟨st, 0, P + 1, b + 1, ⟨h1.hN, h1.start, rfl, by show k.passes + 1 = ((P + 1 : Nat) : Int); omega, by show (k.X.set _ _).length = N; rw [List.length_set]; exact hX, h1.s1, by omega⟩, ?_, by omega, Nat.le_refl _, fun j hj ⟨q, hq, _⟩ => by omega, fun j hj _ _ => ?_⟩
   ·show (if 1 < k.passes + 1 ∧ (k.turned || decide ((Y b).C.getD k.slot 0 ≠ k.X.getD k.slot 0)) = false then (1 : Int) else k.ph) = 0
    rw [if_neg hend]
    exact h2
   ·obtain ⟨a1, p1, p2, p3⟩ := cur j hj (hall j hj)
    exact ⟨a1, by omega, by omega, p3⟩
 ·have e : k.step (Y b).C = k.put ((Y b).C.getD k.slot 0) := by
   unfold Sn.step
   rw [if_pos h2, if_neg (by omega)]
  left
  rw [e]
  have hwr : ∀ j, wasRead N st (r + 1) j → wasRead N st r j ∨ j = (st + r) % N := fun j ⟨q, hq, he⟩ => by
   by_cases hqr : q = r
   ·exact .inr (by rw [← he, hqr])
   ·exact .inl ⟨q, by omega, he⟩
  have hrw : ∀ j, (wasRead N st r j ∨ j = (st + r) % N) → wasRead N st (r + 1) j := fun j hw => by
   rcases hw with ⟨q, hq, he⟩ | hw
   ·exact ⟨q, by omega, he⟩
   ·exact ⟨r, by omega, hw.symm⟩
  refine ⟨st, r + 1, P, c, ⟨h1.hN, h1.start, by show k.read + 1 = ((r + 1 : Nat) : Int); omega, h1.passes, by show (k.X.set _ _).length = N; rw [List.length_set]; exact hX, h1.s1, by omega⟩, h2, h3, by omega, fun j hj hw => ?_, fun j hj hP ht => ?_⟩
  ·obtain ⟨a, a1, a2, a3⟩ := cur j hj (hwr j hw)
   exact ⟨a, a1, by omega, a3⟩
  ·exact old j hj hP (fun hw => ht (hrw j hw))
end
end
section
open Go.RowKit
def Got (Y : Nat → Yd) (N w i : Nat) (e : Int) (f b : Nat) (v : Int) : Prop :=
 ∃ c u s j : Nat, f ≤ c ∧ c ≤ u ∧ u ≤ s ∧ s < b ∧ j < N ∧ IsEnd ((Y c).C.take N) e j ∧ (Y s).C.getD j 0 = (Y c).C.getD j 0 ∧ (Y (s + 1)).C.getD j 0 = tkW ((Y c).C.getD j 0) ∧
  v = (Y u).C.getD (N + j) 0 ∧ (∃ k, (Y s).ts[w]? = some (some (.ge k, i))) ∧ (Y (s + 1)).ts[w]? ≠ (Y s).ts[w]?
structure TaM (Y : Nat → Yd) (N w i : Nat) (e : Int) (f b : Nat) (a : Ta) : Prop where
 at' : ∃ c j : Nat, f ≤ c ∧ c < b ∧ j < N ∧ a.slot = j ∧ IsEnd ((Y c).C.take N) e j ∧ a.word = (Y c).C.getD j 0 ∧ (a.next = 3 → a.lost = false → ∃ u, c ≤ u ∧ u < b ∧ a.value = (Y u).C.getD (N + j) 0)
 got : a.next = 4 → a.lost = false → Got Y N w i e f b a.value
structure GetM (Y : Nat → Yd) (N w i : Nat) (d : Dd) (k : Ge) (b : Nat) : Prop where
 e : k.e = d.e
 ex : ∃ f, d.fr < (Y f).moves ∧ f ≤ b ∧ (k.ta = none → SnM Y N k.sn f b) ∧ ∀ a, k.ta = some a → TaM Y N w i k.e f b a
structure GetD (Y : Nat → Yd) (N i : Nat) (d : Dd) (b : Nat) : Prop where
 ok : d.ok = true → ∃ w f b' : Nat, d.who = w ∧ d.fr < (Y f).moves ∧ b' ≤ b ∧ (Y b').moves ≤ d.till ∧ Got Y N w i d.e f b' d.v
 no : d.ok = false → ∃ f c b' : Nat, d.fr < (Y f).moves ∧ f ≤ c ∧ c ≤ b' ∧ b' ≤ b ∧ (Y b').moves ≤ d.till ∧ IsEnd ((Y c).C.take N) d.e (-1)
structure GTr (Y : Nat → Yd) (N b : Nat) : Prop where
 run : ∀ (w : Nat) (k : Ge) (i : Nat) (d : Dd), (Y b).ts[w]? = some (some (.ge k, i)) → (Y b).ds[i]? = some d → GetM Y N w i d k b
 done : ∀ (i : Nat) (d : Dd), (Y b).ds[i]? = some d → d.kd = 1 → d.till ≠ -1 → GetD Y N i d b
section
variable {Y : Nat → Yd} {N w i f b : Nat} {e v : Int} {d : Dd} {k : Ge}
theorem Got.later (h : Got Y N w i e f b v) : Got Y N w i e f (b + 1) v := by
 obtain ⟨c, u, s, j, h1, h2, h3, h4, h5⟩ := h
 exact ⟨c, u, s, j, h1, h2, h3, by omega, h5⟩
theorem TaM.later {a : Ta} (h : TaM Y N w i e f b a) : TaM Y N w i e f (b + 1) a := by
 obtain ⟨c, j, h1, h2, h3, h4, h5, h6, h7⟩ := h.at'
 exact ⟨⟨c, j, h1, by omega, h3, h4, h5, h6, fun p q => by obtain ⟨u, u1, u2, u3⟩ := h7 p q; exact ⟨u, u1, by omega, u3⟩⟩, fun p q => (h.got p q).later⟩
theorem GetM.later (h : GetM Y N w i d k b) : GetM Y N w i d k (b + 1) := by
 obtain ⟨f, h1, h2, h3, h4⟩ := h.ex
 exact ⟨h.e, f, h1, by omega, fun p => (h3 p).later, fun a p => (h4 a p).later⟩
theorem GetD.later (h : GetD Y N i d b) : GetD Y N i d (b + 1) :=
 ⟨fun p => by obtain ⟨w, f, b', h1, h2, h3, h4⟩ := h.ok p; exact ⟨w, f, b', h1, h2, by omega, h4⟩,
  fun p => by obtain ⟨f, c, b', h1, h2, h3, h4, h5⟩ := h.no p; exact ⟨f, c, b', h1, h2, h3, by omega, h5⟩⟩
theorem zHE {X C : List Int} (hX : X.length = N) (hC : N ≤ C.length) (h : ∀ j, j < N → X.getD j 0 = C.getD j 0) : X = C.take N := by
 apply List.ext_getElem
 ·rw [hX, List.length_take]
  omega
 ·intro j h1 h2
  have := h j (by omega)
  rw [List.getD_eq_getElem?_getD, List.getD_eq_getElem?_getD, List.getElem?_eq_getElem h1, List.getElem?_eq_getElem (by omega)] at this
  rw [List.getElem_take]
  exact this
theorem IsEnd.place {ws : List Int} {z : Int} (h : IsEnd ws e z) : z = -1 ∨ ∃ j : Nat, z = j ∧ j < ws.length := by
 rcases h with ⟨h, _⟩ | ⟨j, h, h1, _⟩
 ·exact .inl h
 ·exact .inr ⟨j, h, h1⟩
def GetTo (Y : Nat → Yd) (N w i : Nat) (d : Dd) (b : Nat) (k : Ge) : Prop :=
 (k.ph = 0 → GetM Y N w i d k (b + 1)) ∧ (k.ph = 1 → ∃ f, d.fr < (Y f).moves ∧ Got Y N w i d.e f b k.val) ∧ (k.ph ≠ 0 → k.ph ≠ 1 → ∃ f c, d.fr < (Y f).moves ∧ f ≤ c ∧ c ≤ b ∧ IsEnd ((Y c).C.take N) d.e (-1))
theorem GetM.step {B : YB} {z : Int} (h : GetM Y N w i d k b) (hF : GFacts B N (Y b).C w k) (ha : k.ask (Y b).C z) (hw : (Y b).ts[w]? = some (some (.ge k, i))) (hlen : ∀ c, c ≤ b → N ≤ (Y c).C.length)
  (hC : (Y (b + 1)).C = k.cells N (2 * N + w) (Y b).C) (ht : (Y (b + 1)).ts[w]? = if (k.step N (2 * N + w) (Y b).C z).ph = 0 then some (some (.ge (k.step N (2 * N + w) (Y b).C z), i)) else some none)
  (hst : ∀ {j : Nat}, j < N → ∀ {a c e : Nat}, a ≤ c → c ≤ e → e ≤ b → (Y a).C.getD j 0 = (Y e).C.getD j 0 → (Y c).C.getD j 0 = (Y a).C.getD j 0) :
  GetTo Y N w i d b (k.step N (2 * N + w) (Y b).C z) := by
 unfold GetTo
 obtain ⟨f, h1, h2, h3, h4⟩ := h.ex
 have he := h.e
 have hp := hF.ph
 have hnp : ¬ k.ph ≠ 0 := by omega
 cases hta : k.ta with
 | none =>
  have e1 : k.step N (2 * N + w) (Y b).C z = k.read (k.sn.step (Y b).C) z := by unfold Ge.step; rw [if_neg hnp, hta]
  rcases (h3 hta).step hst with hs | ⟨hs1, hs2, c, c1, c2, c3⟩
  ·have hs0 : (k.sn.step (Y b).C).ph = 0 := by obtain ⟨_, _, _, _, _, q, _⟩ := hs.ex; exact q
   have e2 : k.read (k.sn.step (Y b).C) z = { k with sn := k.sn.step (Y b).C } := by unfold Ge.read; rw [if_pos (by omega)]
   rw [e1, e2]
   refine ⟨fun _ => ⟨he, f, h1, by omega, fun _ => hs, fun a haa => ?_⟩, fun q => ?_, fun q => absurd hp q⟩
   ·have haa' : k.ta = some a := haa
    rw [hta] at haa'
    cases haa'
   ·have q' : k.ph = 1 := q
    omega
  ·have hz := ha hp hta hs1
   rw [zHE hs2 (hlen c c2) c3] at hz
   by_cases hneg : z < 0
   ·have e2 : k.read (k.sn.step (Y b).C) z = { k with sn := k.sn.step (Y b).C, ph := 2 } := by unfold Ge.read; rw [if_neg (fun q => q hs1), if_pos hneg]
    rw [e1, e2]
    refine ⟨fun q => absurd q (by show ¬ (2 : Int) = 0; decide), fun q => absurd q (by show ¬ (2 : Int) = 1; decide), fun _ _ => ⟨f, c, h1, c1, c2, ?_⟩⟩
    rcases hz.place with q | ⟨j, q, _⟩
    ·rw [← q, ← he]
     exact hz
    ·omega
   ·have e2 : k.read (k.sn.step (Y b).C) z = { k with sn := k.sn.step (Y b).C, ta := some (ta0 k.t k.s k.so k.d k.who z ((k.sn.step (Y b).C).X.getD z.toNat 0)) } := by unfold Ge.read; rw [if_neg (fun q => q hs1), if_neg hneg]
    rw [e1, e2]
    refine ⟨fun _ => ⟨he, f, h1, by omega, fun q => (by cases q), fun a haa => ?_⟩, fun q => ?_, fun q => absurd hp q⟩
    ·cases haa
     rcases hz.place with q | ⟨j, rfl, hj⟩
     ·omega
     ·have hjN : j < N := by
       rw [List.length_take] at hj
       omega
      exact ⟨⟨c, j, c1, by omega, hjN, rfl, hz, c3 _ hjN, fun q => absurd q (by show ¬ (0 : Int) = 3; decide)⟩, fun q => absurd q (by show ¬ (0 : Int) = 4; decide)⟩
    ·have q' : k.ph = 1 := q
     omega
 | some a =>
  have e1 : k.step N (2 * N + w) (Y b).C z = k.grab N (a.go a.slot.toNat (N + a.slot.toNat) (Y b).C) := by unfold Ge.step; rw [if_neg hnp, hta]
  have ec : (Y (b + 1)).C = a.cells a.slot.toNat (2 * N + w) (Y b).C := by rw [hC]; unfold Ge.cells; rw [if_neg hnp, hta]
  obtain ⟨_, a2, a3, a4, a5⟩ := hF.ta a hta
  have hM := h4 a hta
  obtain ⟨c, j, m1, m2, m3, m4, m5, m6, m7⟩ := hM.at'
  have hj : a.slot.toNat = j := by omega
  rw [hj] at e1 ec
  have hna : ¬ a.ph ≠ 0 := by omega
  have hlb := hlen b (Nat.le_refl _)
  have go : ∀ a' : Ta, a'.ph = 0 → a.go j (N + j) (Y b).C = a' → (k.step N (2 * N + w) (Y b).C z = { k with ta := some a' } → TaM Y N w i k.e f (b + 1) a') →
    ((k.step N (2 * N + w) (Y b).C z).ph = 0 → GetM Y N w i d (k.step N (2 * N + w) (Y b).C z) (b + 1)) ∧
    ((k.step N (2 * N + w) (Y b).C z).ph = 1 → ∃ f, d.fr < (Y f).moves ∧ Got Y N w i d.e f b (k.step N (2 * N + w) (Y b).C z).val) ∧
    ((k.step N (2 * N + w) (Y b).C z).ph ≠ 0 → (k.step N (2 * N + w) (Y b).C z).ph ≠ 1 → ∃ f c, d.fr < (Y f).moves ∧ f ≤ c ∧ c ≤ b ∧ IsEnd ((Y c).C.take N) d.e (-1)) := by
   intro a' p0 pg pm
   have e2 : k.step N (2 * N + w) (Y b).C z = { k with ta := some a' } := by
    rw [e1, pg]
    unfold Ge.grab
    rw [if_neg (by omega), if_neg (by omega)]
   have hm := pm e2
   rw [e2]
   refine ⟨fun _ => ⟨he, f, h1, by omega, fun q => (by cases q), fun x hx => ?_⟩, fun q => ?_, fun q => absurd hp q⟩
   ·cases hx
    exact hm
   ·have q' : k.ph = 1 := q
    omega
  rcases a5.st a2 with ⟨n1, l1⟩ | ⟨n1, l1⟩ | ⟨n1, l1⟩ | ⟨n1, l1⟩ | n1
  ·refine go { a with next := 1 } a2 (by unfold Ta.go; rw [if_neg hna, if_pos n1]) (fun _ => ⟨⟨c, j, m1, by omega, m3, m4, m5, m6, fun q => absurd q (by show ¬ (1 : Int) = 3; decide)⟩, fun q => absurd q (by show ¬ (1 : Int) = 4; decide)⟩)
  ·by_cases hq : (Y b).C.getD j 0 = a.word
   ·exact go { a with next := 2 } a2 (by unfold Ta.go; rw [if_neg hna, if_neg (by omega), if_pos n1, if_pos hq]) (fun _ => ⟨⟨c, j, m1, by omega, m3, m4, m5, m6, fun q => absurd q (by show ¬ (2 : Int) = 3; decide)⟩, fun q => absurd q (by show ¬ (2 : Int) = 4; decide)⟩)
   ·exact go { a with next := 4, lost := true } a2 (by unfold Ta.go; rw [if_neg hna, if_neg (by omega), if_pos n1, if_neg hq]) (fun _ => ⟨⟨c, j, m1, by omega, m3, m4, m5, m6, fun q => absurd q (by show ¬ (4 : Int) = 3; decide)⟩, fun _ q => by cases q⟩)
  ·exact go { a with value := (Y b).C.getD (N + j) 0, next := 3 } a2 (by unfold Ta.go; rw [if_neg hna, if_neg (by omega), if_neg (by omega), if_pos n1]) (fun _ => ⟨⟨c, j, m1, by omega, m3, m4, m5, m6, fun _ _ => ⟨b, by omega, by omega, rfl⟩⟩, fun q => absurd q (by show ¬ (3 : Int) = 4; decide)⟩)
  ·by_cases hq : (Y b).C.getD j 0 = a.word
   ·refine go { a with next := 4 } a2 (by unfold Ta.go; rw [if_neg hna, if_neg (by omega), if_neg (by omega), if_neg (by omega), if_pos n1, if_pos hq]) (fun hk => ⟨⟨c, j, m1, by omega, m3, m4, m5, m6, fun q => absurd q (by show ¬ (4 : Int) = 3; decide)⟩, fun _ _ => ?_⟩)
    obtain ⟨u, u1, u2, u3⟩ := m7 n1 l1
    refine ⟨c, u, b, j, m1, u1, by omega, by omega, m3, m5, by rw [hq, m6], ?_, u3, ⟨k, hw⟩, ?_⟩
    ·rw [ec]
     unfold Ta.cells
     rw [if_neg hna, if_neg (by omega), if_neg (by omega), if_neg (by omega), if_pos n1, if_pos hq, zAJ _ (by omega), m6]
    ·rw [ht, hw, hk]
     rw [if_pos (by exact hp)]
     intro hh
     have hh' := Wk.ge.inj (Prod.mk.inj (Option.some.inj (Option.some.inj hh))).1
     have h5 : k.ta = some { a with next := 4 } := by rw [← hh']
     rw [hta] at h5
     have h6 : a = { a with next := 4 } := Option.some.inj h5
     have h7 : a.next = 4 := by rw [h6]
     omega
   ·exact go { a with next := 4, lost := true } a2 (by unfold Ta.go; rw [if_neg hna, if_neg (by omega), if_neg (by omega), if_neg (by omega), if_pos n1, if_neg hq]) (fun _ => ⟨⟨c, j, m1, by omega, m3, m4, m5, m6, fun q => absurd q (by show ¬ (4 : Int) = 3; decide)⟩, fun _ q => by cases q⟩)
  ·cases hl : a.lost with
   | true =>
    have eg : a.go j (N + j) (Y b).C = { a with ph := 2 } := by unfold Ta.go; rw [if_neg hna, if_neg (by omega), if_neg (by omega), if_neg (by omega), if_neg (by omega), if_pos hl]
    have e2 : k.step N (2 * N + w) (Y b).C z = { k with tries := k.tries + 1, sn := sn0 k.t k.s k.so k.d k.who (IntKind.u64.wrap k.start % N) N, ta := none } := by
     rw [e1, eg]
     unfold Ge.grab
     rw [if_neg (by show ¬ (2 : Int) = 1; decide), if_pos rfl]
    rw [e2]
    have n2 := hF.ok.lay.n1
    have n3 := hF.ok.lay.n2
    obtain ⟨_, _, _, s4, s5⟩ := zAr k.start N (by omega) (by omega)
    refine ⟨fun _ => ⟨he, f, h1, by omega, fun _ => ?_, fun x hx => by cases hx⟩, fun q => ?_, fun q => absurd hp q⟩
    ·show SnM Y N (sn0 k.t k.s k.so k.d k.who (IntKind.u64.wrap k.start % N) N) f (b + 1)
     rw [show IntKind.u64.wrap k.start % N = (((IntKind.u64.wrap k.start % N).toNat : Nat) : Int) by omega]
     exact SnM.start _ _ _ _ _ _ (by omega) (by omega)
    ·have q' : k.ph = 1 := q
     omega
   | false =>
    have eg : a.go j (N + j) (Y b).C = { a with next := 5, ph := 1 } := by unfold Ta.go; rw [if_neg hna, if_neg (by omega), if_neg (by omega), if_neg (by omega), if_neg (by omega), if_neg (by rw [hl]; decide)]
    have e2 : k.step N (2 * N + w) (Y b).C z = { k with ta := some { a with next := 5, ph := 1 }, ph := 1 } := by
     rw [e1, eg]
     unfold Ge.grab
     rw [if_pos rfl]
    rw [e2]
    refine ⟨fun q => absurd q (by show ¬ (1 : Int) = 0; decide), fun _ => ⟨f, h1, ?_⟩, fun _ q => absurd rfl q⟩
    rw [← he]
    exact hM.got n1 hl
end
section
variable {B : YB} {N m b w : Nat} {Y : Nat → Yd}
theorem zAq {Y : Yd} {P : Pl} {w i j : Nat} {T : Wk} {z : Int} {d0 a : Dd} (h0 : Y.ds[i]? = some d0) (hj : (Y.step P w T i z).ds[j]? = some a) : (Y.ds[j]? = some a ∧ (j = i → (T.step P Y.C Y.now z).ph = 0)) ∨ (j = i ∧ (T.step P Y.C Y.now z).ph ≠ 0 ∧ a = d0.over Y.moves (T.step P Y.C Y.now z)) := by
 have hj' : (if (T.step P Y.C Y.now z).ph = 0 then Y.ds else Y.ds.modify i (fun d => d.over Y.moves (T.step P Y.C Y.now z)))[j]? = some a := hj
 split at hj'
 ·rename_i hp
  exact .inl ⟨hj', fun _ => hp⟩
 ·rename_i hp
  rcases ymod hj' with ⟨e1, d1, e2, e3⟩ | ⟨e1, e2⟩
  ·subst e1
   rw [h0] at e2
   cases e2
   exact .inr ⟨rfl, hp, e3⟩
  ·exact .inl ⟨e2, fun e => absurd e.symm e1⟩
theorem GTr.start (h : YTr B N Y m) : GTr Y N 0 := by
 constructor
 ·intro w k i d hw hd
  rw [h.zero] at hd
  simp at hd
 ·intro i d hd
  rw [h.zero] at hd
  simp at hd
theorem GTr.next (h : YTr B N Y m) (hG : GTr Y N b) (hb : b < m) : GTr Y N (b + 1) := by
 have hA := h.all b (by omega)
 have hhow := h.how b hb
 have hT := h.hT
 have hlen : ∀ c, c ≤ b → N ≤ (Y c).C.length := fun c hc => by
  have := (h.all c (by omega)).len
  omega
 generalize hZ : Y (b + 1) = Z at hhow
 cases hhow with
 | rest =>
  constructor
  ·intro w k i d hw hd
   rw [hZ] at hw hd
   exact (hG.run w k i d hw hd).later
  ·intro i d hd
   rw [hZ] at hd
   exact fun p q => (hG.done i d hd p q).later
 | pass n hn =>
  constructor
  ·intro w k i d hw hd
   rw [hZ] at hw hd
   exact (hG.run w k i d hw hd).later
  ·intro i d hd
   rw [hZ] at hd
   exact fun p q => (hG.done i d hd p q).later
 | call w take kd e x s hw he hk =>
  constructor
  ·intro v k i d hv hd
   rw [hZ] at hv hd
   rcases yset hv with ⟨rfl, hq, _⟩ | ⟨_, hq⟩
   ·have hq1 : Wk.ge k = wkB B N w take e x s := (Prod.mk.inj (Option.some.inj hq)).1
    have hq2 : i = (Y b).ds.length := (Prod.mk.inj (Option.some.inj hq)).2
    have hk' := zFa hq1
    subst hk' hq2
    rcases ysnoc hd with ⟨_, rfl⟩ | ⟨e1, _⟩
    ·refine ⟨rfl, b + 1, ?_, Nat.le_refl _, fun _ => ?_, fun a ha => by cases ha⟩
     ·rw [hZ]
      show (((Y b).moves : Nat) : Int) < (((Y b).moves + 1 : Nat) : Int)
      omega
     ·have n2 := h.cf.lay.n1
      have n3 := h.cf.lay.n2
      have n4 := h.cf.lay.t1
      obtain ⟨_, _, _, s4, s5⟩ := zAr s N (by omega) (by omega)
      show SnM Y N (sn0 B.t B.s B.so B.d w (IntKind.u64.wrap s % N) N) (b + 1) (b + 1)
      rw [show IntKind.u64.wrap s % N = (((IntKind.u64.wrap s % N).toNat : Nat) : Int) by omega]
      exact SnM.start _ _ _ _ _ _ (by omega) (Nat.le_refl _)
    ·omega
   ·obtain ⟨_, _, _, _, d0, k5, _⟩ := hA.ok.task v _ i hq
    rcases ysnoc hd with ⟨e1, _⟩ | ⟨_, e2⟩
    ·have := (List.getElem?_eq_some_iff.1 k5).1
     omega
    ·exact (hG.run v k i d hq e2).later
  ·intro i d hd p q
   rw [hZ] at hd
   rcases ysnoc hd with ⟨_, rfl⟩ | ⟨_, e2⟩
   ·exact absurd rfl q
   ·exact (hG.done i d e2 p q).later
 | step w T i z hw ha =>
  obtain ⟨k1, k2, k3, k4, d0, k5, k6, k7, k8, _⟩ := hA.ok.task w T i hw
  have hkd := hA.cok.kind w T i d0 hw k5
  have hst : ∀ {j : Nat}, j < N → ∀ {a c e : Nat}, a ≤ c → c ≤ e → e ≤ b → (Y a).C.getD j 0 = (Y e).C.getD j 0 → (Y c).C.getD j 0 = (Y a).C.getD j 0 := by
   intro j hj a c e h1 h2 h3 h4
   exact h.stays hj h1 h2 (by omega) h4
  have hlt : w < (Y b).ts.length := (List.getElem?_eq_some_iff.1 hw).1
  have own : ∀ k : Ge, T = .ge k → GetTo Y N w i d0 b (k.step N (2 * N + w) (Y b).C z) := fun k hk => by
   subst hk
   exact GetM.step (k := k) (w := w) (i := i) (z := z) (hG.run w k i d0 hw k5) (hA.ok.getF hw) (show k.ask (Y b).C z from ha) hw hlen (by rw [hZ]; rfl) (by
    rw [hZ]
    show (if (k.step N (2 * N + w) (Y b).C z).ph = 0 then (Y b).ts.set w (some (Wk.ge (k.step N (2 * N + w) (Y b).C z), i)) else (Y b).ts.set w none)[w]? = _
    split
    ·rw [List.getElem?_set_self hlt]
    ·rw [List.getElem?_set_self hlt]) hst
  constructor
  ·intro v k i' d hv hd
   rw [hZ] at hv hd
   have hv' : (if (T.step (plOf B N w) (Y b).C (Y b).now z).ph = 0 then (Y b).ts.set w (some (T.step (plOf B N w) (Y b).C (Y b).now z, i)) else (Y b).ts.set w Option.none)[v]? = some (some (Wk.ge k, i')) := hv
   by_cases hvw : w = v
   ·subst hvw
    split at hv'
    ·rename_i hp
     rw [List.getElem?_set_self hlt] at hv'
     obtain ⟨e1, rfl⟩ := Prod.mk.inj (Option.some.inj (Option.some.inj hv'))
     cases T with
     | pu p => cases e1
     | ge g =>
      obtain ⟨o1, _⟩ := own g rfl
      have e2 : g.step N (2 * N + w) (Y b).C z = k := Wk.ge.inj e1
      rcases zAq k5 hd with ⟨hd', _⟩ | ⟨_, q, _⟩
      ·rw [k5] at hd'
       cases hd'
       rw [← e2]
       exact o1 hp
      ·exact absurd hp q
    ·rw [List.getElem?_set_self hlt] at hv'
     cases hv'
   ·have hq : (Y b).ts[v]? = some (some (Wk.ge k, i')) := by
     split at hv'
     ·rw [List.getElem?_set_ne hvw] at hv'
      exact hv'
     ·rw [List.getElem?_set_ne hvw] at hv'
      exact hv'
    rcases zAq k5 hd with ⟨hd', _⟩ | ⟨e1, _, _⟩
    ·exact (hG.run v k i' d hq hd').later
    ·obtain ⟨_, _, _, _, d2, q5, q6, _⟩ := hA.ok.task v _ i' hq
     rw [e1, k5] at q5
     cases q5
     rw [k6] at q6
     omega
  ·intro j d hd p q
   rw [hZ] at hd
   rcases zAq k5 hd with ⟨hd', _⟩ | ⟨rfl, hp, rfl⟩
   ·exact (hG.done j d hd' p q).later
   ·obtain ⟨s1, s2, s3, s4, s5, s6, s7⟩ := Dd.over_same d0 (Y b).moves (T.step (plOf B N w) (Y b).C (Y b).now z)
    cases T with
    | pu k =>
     rw [s2, hkd] at p
     exact absurd p (by show ¬ kdI false = 1; decide)
    | ge k =>
     obtain ⟨_, o2, o3⟩ := own k rfl
     have hp' : (k.step N (2 * N + w) (Y b).C z).ph ≠ 0 := hp
     by_cases h1 : (k.step N (2 * N + w) (Y b).C z).ph = 1
     ·have e4 : d0.over (Y b).moves ((Wk.ge k).step (plOf B N w) (Y b).C (Y b).now z) = { d0 with till := (Y b).moves, ok := true, v := (k.step N (2 * N + w) (Y b).C z).val, lo := 0, hi := 0 } := if_pos h1
      rw [e4]
      obtain ⟨f, f1, f2⟩ := o2 h1
      exact ⟨fun _ => ⟨w, f, b, k6, f1, by omega, Int.le_refl _, f2⟩, fun hh => by cases hh⟩
     ·have e4 : d0.over (Y b).moves ((Wk.ge k).step (plOf B N w) (Y b).C (Y b).now z) = { d0 with till := (Y b).moves } := if_neg h1
      rw [e4]
      obtain ⟨f, c, f1, f2, f3, f4⟩ := o3 hp' h1
      exact ⟨fun hh => absurd ((show d0.ok = true from hh).symm.trans k8) (by decide), fun _ => ⟨f, c, b, f1, f2, f3, by omega, Int.le_refl _, f4⟩⟩
theorem YTr.gets (h : YTr B N Y m) : ∀ b, b ≤ m → GTr Y N b
 | 0, _ => GTr.start h
 | b + 1, hb => (YTr.gets h b (by omega)).next h (by omega)
end
end
section
open Go.RowKit
structure PutAt (Y : Nat → Yd) (B : YB) (N i : Nat) (d : Dd) (p j : Nat) : Prop where
 till : ((Y p).moves : Int) = d.till
 lt : j < N
 own0 : d.who * B.s ≤ j
 own1 : j < d.who * B.s + B.s
 free : (Y p).C.getD j 0 % 4 ≠ 1
 word : (Y (p + 1)).C.getD j 0 = 1 + 4 * d.e + 8 * ((Y p).C.getD j 0 / 8 % 8192 + 1) + 65536 * d.lo + 1099511627776 * d.hi
 gen : (Y p).C.getD j 0 / 8 % 8192 ≤ 8190
 e0 : 0 ≤ d.e
 e1 : d.e ≤ 1
 st : 0 ≤ d.lo ∧ d.lo ≤ d.hi ∧ d.hi < 16777215
 value : (Y (p + 1)).C.getD (N + j) 0 = d.x
 rest : ∀ q, q ≠ j → (Y (p + 1)).C.getD q 0 = (Y p).C.getD q 0
 run : ∃ (w : Nat) (k : Pu), d.who = w ∧ (Y p).ts[w]? = some (some (.pu k, i)) ∧ (Y (p + 1)).ts[w]? = some none
structure VTr (Y : Nat → Yd) (B : YB) (N b : Nat) : Prop where
 run : ∀ (w : Nat) (k : Pu) (i : Nat) (d : Dd), (Y b).ts[w]? = some (some (.pu k, i)) → (Y b).ds[i]? = some d → k.value = d.x ∧ k.e = d.e ∧ (k.next = 3 → (Y b).C.getD (N + k.cl.slot.toNat) 0 = d.x)
 done : ∀ (i : Nat) (d : Dd), (Y b).ds[i]? = some d → d.kd = 0 → d.ok = true → ∃ p j, p < b ∧ PutAt Y B N i d p j
 live : ∀ j, j < N → (Y b).C.getD j 0 % 4 = 1 → ∃ i d p, (Y b).ds[i]? = some d ∧ d.kd = 0 ∧ d.ok = true ∧ p < b ∧ PutAt Y B N i d p j ∧ (Y b).C.getD j 0 = (Y (p + 1)).C.getD j 0 ∧ (Y b).C.getD (N + j) 0 = d.x
section
theorem zHl {nb : Nat} {k : Tk} {C : List Int} {now : Int} {i : Nat} (h : i < nb) : (stp nb k C now).2.1.getD i 0 = C.getD i 0 := by
 have key : ∀ (q : Nat) (x : Int), (C.set (nb + q) x).getD i 0 = C.getD i 0 := fun q x => zAG x (by omega)
 have key0 : ∀ (x : Int), (C.set nb x).getD i 0 = C.getD i 0 := key 0
 unfold stp
 repeat' split
 all_goals first | rfl | exact key _ _ | exact key0 _
theorem zEZ {k : Pu} {N nb : Nat} {C : List Int} {now : Int} (hp : k.ph = 0) (hn : k.next = 0 ∨ k.next = 1 ∨ k.next = 2 ∨ k.next = 3) (hl : 2 * N ≤ C.length) (hs : k.cl.slot.toNat < N) {q : Nat} (hq : q < nb) :
  (k.cells N nb C now).getD q 0 = C.getD q 0 ∨ (k.next = 2 ∧ q = N + k.cl.slot.toNat ∧ (k.cells N nb C now).getD q 0 = k.value) ∨ (k.next = 3 ∧ q = k.cl.slot.toNat) := by
 have hnp : ¬ k.ph ≠ 0 := by omega
 unfold Pu.cells
 rw [if_neg hnp]
 rcases hn with h | h | h | h
 ·rw [if_pos h]
  exact .inl rfl
 ·rw [if_neg (by omega), if_pos h]
  exact .inl (zHl hq)
 ·rw [if_neg (by omega), if_neg (by omega), if_pos h]
  by_cases e : N + k.cl.slot.toNat = q
  ·subst e
   exact .inr (.inl ⟨h, rfl, zAJ _ (by omega)⟩)
  ·exact .inl (zAG _ e)
 ·rw [if_neg (by omega), if_neg (by omega), if_neg (by omega)]
  by_cases e : k.cl.slot.toNat = q
  ·exact .inr (.inr ⟨h, e.symm⟩)
  ·exact .inl (zAG _ e)
theorem zCu (k : Pu) (r : Int) : (k.after r).next = k.next ∨ (k.after r).next = k.next + 1 := by
 unfold Pu.after
 split
 ·exact .inr rfl
 ·split <;> exact .inl rfl
end
section
variable {B : YB} {N n m b w : Nat} {Y : Nat → Yd}
theorem zGA {Y : Yd} {k : Ge} {i : Nat} (hA : AOk B N Y) (ho : YOk (plOf B N) B.T n Y) (hl : (Y.C.length : Int) = 2 * N + 2 * B.t) (hw : Y.ts[w]? = some (some (.ge k, i))) {q : Nat} (hq : q < 2 * N) :
  (k.cells N (2 * N + w) Y.C).getD q 0 = Y.C.getD q 0 ∨ (q < N ∧ (k.cells N (2 * N + w) Y.C).getD q 0 = tkW (Y.C.getD q 0) ∧ (k.cells N (2 * N + w) Y.C).getD q 0 % 4 = 2) := by
 have hF := ho.getF hw
 unfold Ge.cells
 split
 ·exact .inl rfl
 ·cases hta : k.ta with
  | none => exact .inl rfl
  | some a =>
   obtain ⟨_, _, b3, b4, b5⟩ := hF.ta a hta
   show (a.cells a.slot.toNat (2 * N + w) Y.C).getD q 0 = _ ∨ (q < N ∧ (a.cells a.slot.toNat (2 * N + w) Y.C).getD q 0 = _ ∧ (a.cells a.slot.toNat (2 * N + w) Y.C).getD q 0 % 4 = 2)
   have hlen := b5.len
   have ht1 := b5.lay.t1
   unfold Ta.cells
   split
   ·exact .inl rfl
   ·split
    ·exact .inl (zAG _ (by omega))
    ·split
     ·exact .inl rfl
     ·split
      ·exact .inl rfl
      ·split
       ·split
        ·rename_i hx
         by_cases e : a.slot.toNat = q
         ·subst e
          have x0 := b5.x0
          right
          rw [zAJ _ (by omega), hx]
          exact ⟨by omega, rfl, (zAT x0).1⟩
         ·exact .inl (zAG _ e)
        ·exact .inl rfl
       ·exact .inl (zAG _ (by omega))
theorem VTr.start (h : YTr B N Y m) : VTr Y B N 0 := by
 have hz : ∀ j, (Y 0).C.getD j 0 = 0 := fun j => by
  rw [h.zero]
  show (List.replicate (2 * N + 2 * B.T) (0 : Int)).getD j 0 = 0
  rw [List.getD_eq_getElem?_getD, List.getElem?_replicate]
  split <;> rfl
 refine ⟨fun w k i d hw hd => ?_, fun i d hd => ?_, fun j _ hj => ?_⟩
 ·rw [h.zero] at hd
  simp at hd
 ·rw [h.zero] at hd
  simp at hd
 ·rw [hz] at hj
  omega
theorem VTr.live_same (hV : VTr Y B N b) (hC : ∀ j, j < N → (Y (b + 1)).C.getD j 0 % 4 = 1 → (Y (b + 1)).C.getD j 0 = (Y b).C.getD j 0 ∧ (Y (b + 1)).C.getD (N + j) 0 = (Y b).C.getD (N + j) 0) (hd : ∀ (i : Nat) (d : Dd), (Y b).ds[i]? = some d → d.ok = true → (Y (b + 1)).ds[i]? = some d) :
  ∀ j, j < N → (Y (b + 1)).C.getD j 0 % 4 = 1 → ∃ i d p, (Y (b + 1)).ds[i]? = some d ∧ d.kd = 0 ∧ d.ok = true ∧ p < b + 1 ∧ PutAt Y B N i d p j ∧ (Y (b + 1)).C.getD j 0 = (Y (p + 1)).C.getD j 0 ∧ (Y (b + 1)).C.getD (N + j) 0 = d.x := by
 intro j hj h1
 obtain ⟨c1, c2⟩ := hC j hj h1
 rw [c1] at h1
 obtain ⟨i, d, p, p1, p2, p3, p4, p5, p6, p7⟩ := hV.live j hj h1
 exact ⟨i, d, p, hd i d p1 p3, p2, p3, by omega, p5, c1.trans p6, c2.trans p7⟩
theorem VTr.next (h : YTr B N Y m) (hV : VTr Y B N b) (hb : b < m) : VTr Y B N (b + 1) := by
 have hA := h.all b (by omega)
 have hhow := h.how b hb
 have hT := h.hT
 have hlen := hA.len
 generalize hZ : Y (b + 1) = Z at hhow
 cases hhow with
 | rest =>
  refine ⟨fun w k i d hw hd => ?_, fun i d hd p q => ?_, hV.live_same (fun j _ _ => by rw [hZ]; exact ⟨rfl, rfl⟩) (fun i d hd _ => by rw [hZ]; exact hd)⟩
  ·rw [hZ] at hw hd ⊢
   exact hV.run w k i d hw hd
  ·rw [hZ] at hd
   obtain ⟨p', j, h1, h2⟩ := hV.done i d hd p q
   exact ⟨p', j, by omega, h2⟩
 | pass n hn =>
  refine ⟨fun w k i d hw hd => ?_, fun i d hd p q => ?_, hV.live_same (fun j _ _ => by rw [hZ]; exact ⟨rfl, rfl⟩) (fun i d hd _ => by rw [hZ]; exact hd)⟩
  ·rw [hZ] at hw hd ⊢
   exact hV.run w k i d hw hd
  ·rw [hZ] at hd
   obtain ⟨p', j, h1, h2⟩ := hV.done i d hd p q
   exact ⟨p', j, by omega, h2⟩
 | call w take kd e x s hw he hk =>
  have hZC : (Y (b + 1)).C = (Y b).C := by rw [hZ]; rfl
  refine ⟨fun v k i d hv hd => ?_, fun i d hd p q => ?_, hV.live_same (fun j _ _ => by rw [hZC]; exact ⟨rfl, rfl⟩) (fun i d hd _ => by
   rw [hZ]
   show ((Y b).ds ++ [_])[i]? = some d
   rw [List.getElem?_append_left (List.getElem?_eq_some_iff.1 hd).1]
   exact hd)⟩
  ·rw [hZC]
   rw [hZ] at hv hd
   rcases yset hv with ⟨rfl, hq, _⟩ | ⟨_, hq⟩
   ·have hq1 : Wk.pu k = wkB B N w take e x s := (Prod.mk.inj (Option.some.inj hq)).1
    have hq2 : i = (Y b).ds.length := (Prod.mk.inj (Option.some.inj hq)).2
    have hk' := zCS hq1
    subst hk' hq2
    rcases ysnoc hd with ⟨_, rfl⟩ | ⟨e1, _⟩
    ·exact ⟨rfl, rfl, fun q => absurd q (by show ¬ (0 : Int) = 3; decide)⟩
    ·omega
   ·obtain ⟨_, _, _, _, d0, k5, _⟩ := hA.ok.task v _ i hq
    rcases ysnoc hd with ⟨e1, _⟩ | ⟨_, e2⟩
    ·have := (List.getElem?_eq_some_iff.1 k5).1
     omega
    ·exact hV.run v k i d hq e2
  ·rw [hZ] at hd
   rcases ysnoc hd with ⟨_, rfl⟩ | ⟨_, e2⟩
   ·cases q
   ·obtain ⟨p', j, h1, h2⟩ := hV.done i d e2 p q
    exact ⟨p', j, by omega, h2⟩
 | step w T i z hw ha =>
  obtain ⟨k1, k2, k3, k4, d0, k5, k6, k7, k8, _⟩ := hA.ok.task w T i hw
  have hkd := hA.cok.kind w T i d0 hw k5
  have hlt : w < (Y b).ts.length := (List.getElem?_eq_some_iff.1 hw).1
  have hZC : (Y (b + 1)).C = T.cells (plOf B N w) (Y b).C (Y b).now := by rw [hZ]; rfl
  have keep : ∀ (i' : Nat) (d : Dd), (Y b).ds[i']? = some d → d.ok = true → (Y (b + 1)).ds[i']? = some d := fun i' d hd hok => by
   rw [hZ]
   show (if (T.step (plOf B N w) (Y b).C (Y b).now z).ph = 0 then (Y b).ds else (Y b).ds.modify i (fun d => d.over (Y b).moves (T.step (plOf B N w) (Y b).C (Y b).now z)))[i']? = some d
   split
   ·exact hd
   ·rw [zBp (fun e => ?_)]
    ·exact hd
    ·rw [← e, k5] at hd
     cases hd
     rw [k8] at hok
     cases hok
  have other : ∀ (v : Nat) (k : Pu) (i' : Nat), v ≠ w → (Y b).ts[v]? = some (some (.pu k, i')) → (Y (b + 1)).C.getD (N + k.cl.slot.toNat) 0 = (Y b).C.getD (N + k.cl.slot.toNat) 0 := fun v k i' hv hq => by
   have hG := hA.ok.putF h.cf hT hlen hq
   have g1 := hG.lo
   have g2 := hG.hi
   have g3 := hG.n1
   obtain ⟨n0, _⟩ := h.cf.own hT hG.wT
   rw [hZC]
   cases T with
   | ge g =>
    rcases zGA hA.aok hA.ok hlen hw (q := N + k.cl.slot.toNat) (by omega) with hh | ⟨hh, _⟩
    ·exact hh
    ·omega
   | pu p =>
    have hF := hA.ok.putF h.cf hT hlen hw
    have b1 := hF.lo
    have b2 := hF.hi
    have b3 := hF.n1
    obtain ⟨m0, _⟩ := h.cf.own hT hF.wT
    rcases zEZ (nb := 2 * N + B.T) (C := (Y b).C) (now := (Y b).now) hF.ph (by rcases hF.ok.at' hF.ph with h | h | h | h <;> omega) (by omega) (by omega : p.cl.slot.toNat < N) (q := N + k.cl.slot.toNat) (by omega) with hh | ⟨_, hh, _⟩ | ⟨_, hh⟩
    ·exact hh
    ·exfalso
     rcases (by omega : v < w ∨ w < v) with hvw | hvw
     ·have h5 : ((v : Int) + 1) * B.s ≤ (w : Int) * B.s := Int.mul_le_mul_of_nonneg_right (by omega) (by have := h.cf.lay.s1; omega)
      rw [Int.add_mul, Int.one_mul] at h5
      omega
     ·have h5 : ((w : Int) + 1) * B.s ≤ (v : Int) * B.s := Int.mul_le_mul_of_nonneg_right (by omega) (by have := h.cf.lay.s1; omega)
      rw [Int.add_mul, Int.one_mul] at h5
      omega
    ·omega
  have store : ∀ k : Pu, T = .pu k → k.next = 3 → ∃ d1 : Dd, d1 = d0.over (Y b).moves (T.step (plOf B N w) (Y b).C (Y b).now z) ∧ d1.kd = 0 ∧ d1.ok = true ∧ (Y (b + 1)).ds[i]? = some d1 ∧ (Y (b + 1)).C = (Y b).C.set k.cl.slot.toNat k.pack ∧ PutAt Y B N i d1 b k.cl.slot.toNat := fun k hk hn => by
   subst hk
   have hF := hA.ok.putF h.cf hT hlen hw
   have hok := hF.ok
   have b1 := hF.lo
   have b2 := hF.hi
   have b3 := hF.n1
   obtain ⟨m0, _⟩ := h.cf.own hT hF.wT
   have hnp : ¬ k.ph ≠ 0 := by have := hF.ph; omega
   rcases hok.at' hF.ph with ⟨a1, _⟩ | ⟨a1, _⟩ | ⟨a1, _⟩ | ⟨a1, a2, a3⟩
   ·omega
   ·omega
   ·omega
   have e2 : k.cells N (2 * N + B.T) (Y b).C (Y b).now = (Y b).C.set k.cl.slot.toNat k.pack := by unfold Pu.cells; rw [if_neg hnp, if_neg (by omega), if_neg (by omega), if_neg (by omega)]
   have e3 : k.step ((w : Int) * B.s) (2 * N + B.T) (2 * N) (Y b).C (Y b).now = { k with ph := 1 } := by unfold Pu.step; rw [if_neg hnp, if_neg (by omega), if_neg (by omega), if_neg (by omega)]
   have e4 : d0.over (Y b).moves ((Wk.pu k).step (plOf B N w) (Y b).C (Y b).now z) = { d0 with till := (Y b).moves, ok := true, v := 0, lo := k.tk.lo, hi := k.tk.hi } := by
    show d0.over (Y b).moves (.pu (k.step ((w : Int) * B.s) (2 * N + B.T) (2 * N) (Y b).C (Y b).now)) = _
    rw [e3]
    rfl
   have e5 : (Y (b + 1)).C = (Y b).C.set k.cl.slot.toNat k.pack := by rw [hZC]; exact e2
   have hph : ¬ ((Wk.pu k).step (plOf B N w) (Y b).C (Y b).now z).ph = 0 := by
    show ¬ (k.step ((w : Int) * B.s) (2 * N + B.T) (2 * N) (Y b).C (Y b).now).ph = 0
    rw [e3]
    exact (by decide : ¬ (1 : Int) = 0)
   have hP := (hA.aok.put w k i hw).word hF.ph (.inl a2)
   obtain ⟨r1, r2, r3⟩ := hV.run w k i d0 hw k5
   have hg := hok.wg (.inl a2)
   refine ⟨_, rfl, ?_, ?_, ?_, e5, ?_⟩
   ·rw [e4]
    exact hkd
   ·rw [e4]
   ·rw [hZ]
    show (if ((Wk.pu k).step (plOf B N w) (Y b).C (Y b).now z).ph = 0 then (Y b).ds else (Y b).ds.modify i (fun d => d.over (Y b).moves ((Wk.pu k).step (plOf B N w) (Y b).C (Y b).now z)))[i]? = _
    rw [if_neg hph, zBc k5]
   ·rw [e4]
    refine ⟨rfl, by omega, by show d0.who * B.s ≤ _; rw [k6]; omega, by show _ < d0.who * B.s + B.s; rw [k6]; omega, hP.1, ?_, by omega, by show 0 ≤ d0.e; rw [← r2]; exact hok.e0, by show d0.e ≤ 1; rw [← r2]; exact hok.e1, hok.st a3, ?_, fun q hq => ?_, w, k, k6, hw, ?_⟩
    ·rw [e5, zAJ _ (by omega), hP.2]
     show k.pack = 1 + 4 * d0.e + 8 * (k.cl.wg + 1) + 65536 * k.tk.lo + 1099511627776 * k.tk.hi
     rw [← r2]
     rfl
    ·rw [e5, zAG _ (by omega)]
     exact r3 a1
    ·rw [e5, zAG _ (fun e => hq e.symm)]
    ·rw [hZ]
     show (if ((Wk.pu k).step (plOf B N w) (Y b).C (Y b).now z).ph = 0 then (Y b).ts.set w (some ((Wk.pu k).step (plOf B N w) (Y b).C (Y b).now z, i)) else (Y b).ts.set w none)[w]? = _
     rw [if_neg hph, List.getElem?_set_self hlt]
  refine ⟨fun v k i' d hv hd => ?_, fun j d hd p q => ?_, ?_⟩
  ·rw [hZ] at hv hd
   rcases zAd hv with ⟨rfl, hq, h0⟩ | ⟨hvw, hq⟩
   ·have hv' : (if (T.step (plOf B N v) (Y b).C (Y b).now z).ph = 0 then (Y b).ts.set v (some (T.step (plOf B N v) (Y b).C (Y b).now z, i)) else (Y b).ts.set v Option.none)[v]? = some (some (Wk.pu k, i')) := hv
    rw [if_pos h0, List.getElem?_set_self hlt] at hv'
    obtain ⟨_, rfl⟩ := Prod.mk.inj (Option.some.inj (Option.some.inj hv'))
    cases T with
    | ge g => cases hq
    | pu p =>
     have hk : p.step ((v : Int) * B.s) (2 * N + B.T) (2 * N) (Y b).C (Y b).now = k := (Wk.pu.inj hq).symm
     have hd' : d = d0 := by
      rcases zAq k5 hd with ⟨hd', _⟩ | ⟨_, q, _⟩
      ·rw [k5] at hd'
       cases hd'
       rfl
      ·exact absurd h0 q
     subst hd'
     obtain ⟨r1, r2, r3⟩ := hV.run v p i d hw k5
     have hF := hA.ok.putF h.cf hT hlen hw
     have b1 := hF.lo
     have b2 := hF.hi
     have b3 := hF.n1
     obtain ⟨m0, _⟩ := h.cf.own hT hF.wT
     have hnp : ¬ p.ph ≠ 0 := by have := hF.ph; omega
     have hsame := Pu.step_same p ((v : Int) * B.s) (2 * N + B.T) (2 * N) (Y b).C (Y b).now
     rw [hk] at hsame
     refine ⟨by rw [hsame.value]; exact r1, by rw [hsame.e]; exact r2, fun hn => ?_⟩
     rcases hF.ok.at' hF.ph with ⟨a1, _⟩ | ⟨a1, _⟩ | ⟨a1, _⟩ | ⟨a1, _⟩
     ·exfalso
      unfold Pu.step at hk
      rw [if_neg hnp, if_pos a1] at hk
      rw [← hk] at hn
      rcases zCu { p with cl := p.cl.step ((v : Int) * B.s) (2 * N) (Y b).C } (p.cl.step ((v : Int) * B.s) (2 * N) (Y b).C).ph with e | e
      ·rw [e] at hn
       have hn' : p.next = 3 := hn
       omega
      ·rw [e] at hn
       have hn' : p.next + 1 = 3 := hn
       omega
     ·exfalso
      unfold Pu.step at hk
      rw [if_neg hnp, if_neg (by omega), if_pos a1] at hk
      rw [← hk] at hn
      rcases zCu { p with tk := (stp (2 * N + B.T) p.tk (Y b).C (Y b).now).1 } (stp (2 * N + B.T) p.tk (Y b).C (Y b).now).1.ph with e | e
      ·rw [e] at hn
       have hn' : p.next = 3 := hn
       omega
      ·rw [e] at hn
       have hn' : p.next + 1 = 3 := hn
       omega
     ·unfold Pu.step at hk
      rw [if_neg hnp, if_neg (by omega), if_neg (by omega), if_pos a1] at hk
      have e2 : (Wk.pu p).cells (plOf B N v) (Y b).C (Y b).now = (Y b).C.set (N + p.cl.slot.toNat) p.value := by show p.cells N (2 * N + B.T) (Y b).C (Y b).now = _; unfold Pu.cells; rw [if_neg hnp, if_neg (by omega), if_neg (by omega), if_pos a1]
      rw [hZC, e2, ← hk]
      show ((Y b).C.set (N + p.cl.slot.toNat) p.value).getD (N + p.cl.slot.toNat) 0 = d.x
      rw [zAJ _ (by omega)]
      exact r1
     ·exfalso
      unfold Pu.step at hk
      rw [if_neg hnp, if_neg (by omega), if_neg (by omega), if_neg (by omega)] at hk
      have h0' : (p.step ((v : Int) * B.s) (2 * N + B.T) (2 * N) (Y b).C (Y b).now).ph = 0 := h0
      unfold Pu.step at h0'
      rw [if_neg hnp, if_neg (by omega), if_neg (by omega), if_neg (by omega)] at h0'
      exact absurd h0' (by show ¬ (1 : Int) = 0; decide)
   ·have hd' : (Y b).ds[i']? = some d := by
     rcases zAq k5 hd with ⟨hd', _⟩ | ⟨e1, _, _⟩
     ·exact hd'
     ·obtain ⟨_, _, _, _, d2, q5, q6, _⟩ := hA.ok.task v _ i' hq
      rw [e1, k5] at q5
      cases q5
      rw [k6] at q6
      omega
    rw [other v k i' hvw hq]
    exact hV.run v k i' d hq hd'
  ·rw [hZ] at hd
   rcases zAq k5 hd with ⟨hd', _⟩ | ⟨rfl, hp, rfl⟩
   ·obtain ⟨p', j', h1, h2⟩ := hV.done j d hd' p q
    exact ⟨p', j', by omega, h2⟩
   ·cases T with
    | ge g =>
     rw [(Dd.over_same d0 (Y b).moves _).2.1, hkd] at p
     exact absurd p (by show ¬ kdI true = 0; decide)
    | pu k =>
     have hF := hA.ok.putF h.cf hT hlen hw
     have hnp : ¬ k.ph ≠ 0 := by have := hF.ph; omega
     have hp1 : (k.step ((w : Int) * B.s) (2 * N + B.T) (2 * N) (Y b).C (Y b).now).ph = 1 := by
      by_cases hq : (k.step ((w : Int) * B.s) (2 * N + B.T) (2 * N) (Y b).C (Y b).now).ph = 1
      ·exact hq
      ·have e4 : d0.over (Y b).moves ((Wk.pu k).step (plOf B N w) (Y b).C (Y b).now z) = { d0 with till := (Y b).moves } := if_neg hq
       rw [e4] at q
       exact absurd ((show d0.ok = true from q).symm.trans k8) (by decide)
     have hn3 : k.next = 3 := by
      rcases hF.ok.at' hF.ph with ⟨a1, _⟩ | ⟨a1, _⟩ | ⟨a1, _⟩ | ⟨a1, _⟩
      ·exfalso
       unfold Pu.step at hp1
       rw [if_neg hnp, if_pos a1] at hp1
       exact zBM _ _ (by exact Classical.not_not.1 hnp) hp1
      ·exfalso
       unfold Pu.step at hp1
       rw [if_neg hnp, if_neg (by omega), if_pos a1] at hp1
       exact zBM _ _ (by exact Classical.not_not.1 hnp) hp1
      ·exfalso
       unfold Pu.step at hp1
       rw [if_neg hnp, if_neg (by omega), if_neg (by omega), if_pos a1] at hp1
       have : k.ph = 1 := hp1
       omega
      ·exact a1
     obtain ⟨d1, rfl, _, _, _, _, h6⟩ := store k rfl hn3
     exact ⟨b, _, by omega, h6⟩
  ·by_cases hs : ∃ k : Pu, T = .pu k ∧ k.next = 3
   ·obtain ⟨k, hk, hn⟩ := hs
    obtain ⟨d1, h1, h2, h3, h4, h5, h6⟩ := store k hk hn
    intro j hj hlive
    by_cases e : j = k.cl.slot.toNat
    ·subst e
     exact ⟨i, d1, b, h4, h2, h3, by omega, h6, rfl, h6.value⟩
    ·have c1 := h6.rest j e
     have c2 : (Y (b + 1)).C.getD (N + j) 0 = (Y b).C.getD (N + j) 0 := h6.rest (N + j) (by have := h6.lt; omega)
     rw [c1] at hlive
     obtain ⟨i2, d, p, p1, p2, p3, p4, p5, p6, p7⟩ := hV.live j hj hlive
     exact ⟨i2, d, p, keep i2 d p1 p3, p2, p3, by omega, p5, c1.trans p6, c2.trans p7⟩
   ·refine hV.live_same (fun j hj hlive => ?_) keep
    rw [hZC] at hlive ⊢
    cases T with
    | ge g =>
     rcases zGA hA.aok hA.ok hlen hw (q := j) (by omega) with hh | ⟨_, _, hh⟩
     ·rcases zGA hA.aok hA.ok hlen hw (q := N + j) (by omega) with hh2 | ⟨hh2, _⟩
      ·exact ⟨hh, hh2⟩
      ·omega
     ·have hlive' : (g.cells N (2 * N + w) (Y b).C).getD j 0 % 4 = 1 := hlive
      omega
    | pu p =>
     have hF := hA.ok.putF h.cf hT hlen hw
     have b1 := hF.lo
     have b2 := hF.hi
     have b3 := hF.n1
     obtain ⟨m0, _⟩ := h.cf.own hT hF.wT
     have hn3 : ¬ p.next = 3 := fun e => hs ⟨p, rfl, e⟩
     have hn := hF.ok.at' hF.ph
     rcases zEZ (nb := 2 * N + B.T) (C := (Y b).C) (now := (Y b).now) hF.ph (by rcases hn with h | h | h | h <;> omega) (by omega) (by omega : p.cl.slot.toNat < N) (q := j) (by omega) with hh | ⟨_, hh, _⟩ | ⟨hh, _⟩
     ·rcases zEZ (nb := 2 * N + B.T) (C := (Y b).C) (now := (Y b).now) hF.ph (by rcases hn with h | h | h | h <;> omega) (by omega) (by omega : p.cl.slot.toNat < N) (q := N + j) (by omega) with hh2 | ⟨h2, hh2, _⟩ | ⟨hh2, _⟩
      ·exact ⟨hh, hh2⟩
      ·exfalso
       have hlive' : (p.cells N (2 * N + B.T) (Y b).C (Y b).now).getD j 0 % 4 = 1 := hlive
       rw [hh] at hlive'
       have hj2 : p.cl.slot.toNat = j := by omega
       rcases hn with ⟨a1, _⟩ | ⟨a1, _⟩ | ⟨a1, a2, _⟩ | ⟨a1, _⟩
       ·omega
       ·omega
       ·have hP := (hA.aok.put w p i hw).word hF.ph (.inl a2)
        rw [hj2] at hP
        exact hP.1 hlive'
       ·omega
      ·exact absurd hh2 hn3
     ·omega
     ·exact absurd hh hn3
theorem YTr.puts (h : YTr B N Y m) : ∀ b, b ≤ m → VTr Y B N b
 | 0, _ => VTr.start h
 | b + 1, hb => (YTr.puts h b (by omega)).next h (by omega)
end
end
section
open Go.RowKit
section
variable {B : YB} {N n m b w : Nat} {Y : Nat → Yd}
theorem zCd {Y Y' : Yd} (h : YHow B N Y Y') {v w : Nat} (hv : Y'.ts[v]? ≠ Y.ts[v]?) (hw : Y'.ts[w]? ≠ Y.ts[w]?) : v = w := by
 cases h with
 | rest => exact absurd rfl hv
 | pass n hn => exact absurd rfl hv
 | call w0 take kd e x s h1 h2 h3 =>
  have key : ∀ u, (Y.call w0 kd e x s (wkB B N w0 take e x s)).ts[u]? ≠ Y.ts[u]? → w0 = u := fun u hu => Classical.byContradiction fun hne => hu (List.getElem?_set_ne hne)
  exact (key v hv).symm.trans (key w hw)
 | step w0 T i z h1 h2 =>
  have key : ∀ u, (Y.step (plOf B N w0) w0 T i z).ts[u]? ≠ Y.ts[u]? → w0 = u := fun u hu => Classical.byContradiction fun hne => hu (by
   show (if (T.step (plOf B N w0) Y.C Y.now z).ph = 0 then Y.ts.set w0 (some (T.step (plOf B N w0) Y.C Y.now z, i)) else Y.ts.set w0 none)[u]? = _
   split <;> exact List.getElem?_set_ne hne)
  exact (key v hv).symm.trans (key w hw)
theorem YHow.over {Y Y' : Yd} (ho : YOk (plOf B N) B.T n Y) (h : YHow B N Y Y') {i : Nat} {d : Dd} (hd : Y.ds[i]? = some d) (hok : d.ok = true ∨ d.till ≠ -1) : Y'.ds[i]? = some d := by
 cases h with
 | rest => exact hd
 | pass n hn => exact hd
 | call w0 take kd e x s h1 h2 h3 =>
  show (Y.ds ++ [_])[i]? = some d
  rw [List.getElem?_append_left (List.getElem?_eq_some_iff.1 hd).1]
  exact hd
 | step w0 T i0 z h1 h2 =>
  obtain ⟨_, _, _, _, d0, k5, _, k7, k8, _⟩ := ho.task w0 T i0 h1
  show (if (T.step (plOf B N w0) Y.C Y.now z).ph = 0 then Y.ds else Y.ds.modify i0 (fun d => d.over Y.moves (T.step (plOf B N w0) Y.C Y.now z)))[i]? = some d
  split
  ·exact hd
  ·rw [zBp (fun e => ?_)]
   ·exact hd
   ·rw [← e, k5] at hd
    cases hd
    rcases hok with hok | hok
    ·rw [k8] at hok
     cases hok
    ·exact hok k7
theorem YTr.over (h : YTr B N Y m) {i : Nat} {d : Dd} {a : Nat} : ∀ {b : Nat}, a ≤ b → b ≤ m → (Y a).ds[i]? = some d → (d.ok = true ∨ d.till ≠ -1) → (Y b).ds[i]? = some d := by
 intro b hab hb hd hok
 induction b with
 | zero =>
  obtain rfl : a = 0 := by omega
  exact hd
 | succ b ih =>
  by_cases hq : a = b + 1
  ·rw [← hq]
   exact hd
  ·exact (h.how b (by omega)).over (h.all b (by omega)).ok (ih (by omega) (by omega)) hok
theorem YTr.moves (h : YTr B N Y m) {a : Nat} : ∀ {b : Nat}, a ≤ b → b ≤ m → (Y a).moves ≤ (Y b).moves := by
 intro b hab hb
 induction b with
 | zero =>
  obtain rfl : a = 0 := by omega
  exact Nat.le_refl _
 | succ b ih =>
  by_cases hq : a = b + 1
  ·rw [← hq]
   exact Nat.le_refl _
  ·refine Nat.le_trans (ih (by omega) (by omega)) ?_
   have hw := h.how b (by omega)
   generalize Y (b + 1) = Z at hw
   cases hw with
   | rest => exact Nat.le_refl _
   | pass n hn => exact Nat.le_refl _
   | call w0 take kd e x s h1 h2 h3 => exact Nat.le_succ _
   | step w0 T i0 z h1 h2 => exact Nat.le_succ _
theorem PutAt.live {i p j : Nat} {d : Dd} (h : PutAt Y B N i d p j) : (Y (p + 1)).C.getD j 0 % 4 = 1 := by
 have h1 := h.word
 omega
theorem zEH (h : YTr B N Y m) {i i' p p' j : Nat} {d d' : Dd} (h1 : PutAt Y B N i d p j) (h2 : PutAt Y B N i' d' p' j) (hp : p < m) (hp' : p' < m) (he : (Y (p + 1)).C.getD j 0 = (Y (p' + 1)).C.getD j 0) : p = p' ∧ i = i' := by
 have e : p = p' := by
  rcases Nat.lt_trichotomy p p' with hlt | heq | hlt
  ·have := h.stays h1.lt (a := p + 1) (b := p') (c := p' + 1) (by omega) (by omega) (by omega) he
   have h3 := h1.live
   have h4 := h2.free
   omega
  ·exact heq
  ·have := h.stays h1.lt (a := p' + 1) (b := p) (c := p + 1) (by omega) (by omega) (by omega) he.symm
   have h3 := h2.live
   have h4 := h1.free
   omega
 refine ⟨e, ?_⟩
 subst e
 obtain ⟨w, k, r1, r2, _⟩ := h1.run
 obtain ⟨w', k', q1, q2, _⟩ := h2.run
 have s1 := h.cf.lay.s1
 have a1 := h1.own0
 have a2 := h1.own1
 have a3 := h2.own0
 have a4 := h2.own1
 rw [r1] at a1 a2
 rw [q1] at a3 a4
 have e1 := zCE s1 a1 a2
 have e2 := zCE s1 a3 a4
 obtain rfl : w = w' := by omega
 rw [r2] at q2
 exact (Prod.mk.inj (Option.some.inj (Option.some.inj q2))).2
theorem zCM {C : List Int} {N j : Nat} (hj : j < N) : (C.take N).getD j 0 = C.getD j 0 := by
 rw [List.getD_eq_getElem?_getD, List.getD_eq_getElem?_getD, List.getElem?_take, if_pos hj]
theorem IsEnd.is {C : List Int} {N j : Nat} {e : Int} (h : IsEnd (C.take N) e j) (hj : j < N) : C.getD j 0 % 4 = 1 := by
 rcases h with ⟨h, _⟩ | ⟨i, h1, _, h3, _⟩
 ·omega
 ·obtain rfl : i = j := by omega
  rw [← zCM hj]
  exact h3
structure Had (Y : Nat → Yd) (B : YB) (N w g : Nat) (e : Int) (f b : Nat) (v : Int) (c s j i p : Nat) (d : Dd) : Prop where
 fc : f ≤ c
 cs : c ≤ s
 sb : s < b
 lt : j < N
 isEnd : IsEnd ((Y c).C.take N) e j
 was : (Y s).C.getD j 0 = (Y c).C.getD j 0
 new : (Y (s + 1)).C.getD j 0 = tkW ((Y c).C.getD j 0)
 run : ∃ k, (Y s).ts[w]? = some (some (.ge k, g))
 turn : (Y (s + 1)).ts[w]? ≠ (Y s).ts[w]?
 deed : (Y c).ds[i]? = some d
 kd : d.kd = 0
 ok : d.ok = true
 pc : p < c
 put : PutAt Y B N i d p j
 word : (Y c).C.getD j 0 = (Y (p + 1)).C.getD j 0
 val : v = d.x
theorem zIL (h : YTr B N Y m) {g f : Nat} {e v : Int} (hb : b ≤ m) (hg : Got Y N w g e f b v) : ∃ c s j i p d, Had Y B N w g e f b v c s j i p d := by
 obtain ⟨c, u, s, j, h1, h2, h3, h4, h5, h6, h7, h8, h9, h10, h11⟩ := hg
 have hl := h6.is h5
 obtain ⟨i, d, p, p1, p2, p3, p4, p5, p6, p7⟩ := (h.puts c (by omega)).live j h5 hl
 have hu := h.stays h5 h2 h3 (by omega) h7.symm
 obtain ⟨i2, d2, q, q1, q2, q3, q4, q5, q6, q7⟩ := (h.puts u (by omega)).live j h5 (by rw [hu]; exact hl)
 obtain ⟨rfl, _⟩ := zEH h p5 q5 (by omega) (by omega) (by rw [← p6, ← q6, hu])
 refine ⟨c, s, j, i, p, d, h1, by omega, h4, h5, h6, h7, h8, h10, h11, p1, p2, p3, p4, p5, p6, ?_⟩
 rw [h9, q7, ← q5.value, p5.value]
end
end
section
open Go.RowKit
def Gone (Y : Nat → Yd) (b p j : Nat) (x : Int) : Prop :=
 ∃ (s g : Nat) (dg : Dd), p < s ∧ s < b ∧ (Y s).C.getD j 0 = (Y (p + 1)).C.getD j 0 ∧ (Y (s + 1)).C.getD j 0 = tkW ((Y (p + 1)).C.getD j 0) ∧ (Y s).moves < (Y b).moves ∧ (Y b).ds[g]? = some dg ∧ dg.kd = 1 ∧ dg.fr < (Y s).moves ∧ (∃ w : Nat, dg.who = w ∧ (∃ k, (Y s).ts[w]? = some (some (.ge k, g))) ∧ (Y (s + 1)).ts[w]? ≠ (Y s).ts[w]?) ∧
  ((∃ (w : Nat) (k : Ge) (a : Ta), (Y b).ts[w]? = some (some (.ge k, g)) ∧ k.ta = some a ∧ a.next = 4 ∧ a.lost = false ∧ a.value = x) ∨ (dg.ok = true ∧ (Y s).moves < dg.till ∧ dg.v = x))
section
variable {B : YB} {N n m b w : Nat} {Y : Nat → Yd}
theorem zB8 {Y : Yd} {k : Ge} {i : Nat} (ho : YOk (plOf B N) B.T n Y) (hw : Y.ts[w]? = some (some (.ge k, i))) {q : Nat} (hq : q < N) (hne : (k.cells N (2 * N + w) Y.C).getD q 0 ≠ Y.C.getD q 0) :
  ∃ a, k.ta = some a ∧ a.next = 3 ∧ a.lost = false ∧ a.slot = q ∧ a.word = Y.C.getD q 0 ∧ k.cells N (2 * N + w) Y.C = Y.C.set q (tkW a.word) ∧ ∀ z, k.step N (2 * N + w) Y.C z = { k with ta := some { a with next := 4 } } := by
 have hF := ho.getF hw
 have hnp : ¬ k.ph ≠ 0 := by have := hF.ph; omega
 cases hta : k.ta with
 | none =>
  exfalso
  apply hne
  unfold Ge.cells
  rw [if_neg hnp, hta]
 | some a =>
  obtain ⟨_, a2, b3, b4, b5⟩ := hF.ta a hta
  have hna : ¬ a.ph ≠ 0 := by omega
  have hc : k.cells N (2 * N + w) Y.C = a.cells a.slot.toNat (2 * N + w) Y.C := by unfold Ge.cells; rw [if_neg hnp, hta]
  rw [hc] at hne ⊢
  by_cases n0 : a.next = 0
  ·exfalso
   apply hne
   unfold Ta.cells
   rw [if_neg hna, if_pos n0]
   exact zAG _ (by omega)
  by_cases n1 : a.next = 1
  ·exfalso
   apply hne
   unfold Ta.cells
   rw [if_neg hna, if_neg n0, if_pos n1]
  by_cases n2 : a.next = 2
  ·exfalso
   apply hne
   unfold Ta.cells
   rw [if_neg hna, if_neg n0, if_neg n1, if_pos n2]
  by_cases n3 : a.next = 3
  ·by_cases hx : Y.C.getD a.slot.toNat 0 = a.word
   ·have e1 : a.cells a.slot.toNat (2 * N + w) Y.C = Y.C.set a.slot.toNat (tkW a.word) := by
     unfold Ta.cells
     rw [if_neg hna, if_neg n0, if_neg n1, if_neg n2, if_pos n3, if_pos hx]
    rw [e1] at hne ⊢
    have hs : a.slot.toNat = q := Classical.byContradiction fun hh => hne (zAG _ hh)
    refine ⟨a, rfl, n3, ?_, by omega, by rw [← hs, hx], by rw [hs], fun z => ?_⟩
    ·rcases b5.st a2 with ⟨h, _⟩ | ⟨h, _⟩ | ⟨h, _⟩ | ⟨_, h⟩ | h
     ·omega
     ·omega
     ·omega
     ·exact h
     ·omega
    ·have e2 : k.step N (2 * N + w) Y.C z = k.grab N (a.go a.slot.toNat (N + a.slot.toNat) Y.C) := by unfold Ge.step; rw [if_neg hnp, hta]
     have e3 : a.go a.slot.toNat (N + a.slot.toNat) Y.C = { a with next := 4 } := by unfold Ta.go; rw [if_neg hna, if_neg n0, if_neg n1, if_neg n2, if_pos n3, if_pos hx]
     rw [e2, e3]
     unfold Ge.grab
     rw [if_neg (by show ¬ a.ph = 1; omega), if_neg (by show ¬ a.ph = 2; omega)]
   ·exfalso
    apply hne
    unfold Ta.cells
    rw [if_neg hna, if_neg n0, if_neg n1, if_neg n2, if_pos n3, if_neg hx]
  ·exfalso
   apply hne
   unfold Ta.cells
   rw [if_neg hna, if_neg n0, if_neg n1, if_neg n2, if_neg n3]
   exact zAG _ (by omega)
theorem zID {k : Ge} {a : Ta} {C : List Int} {hz : Nat} {z : Int} (hp : k.ph = 0) (ha : k.ta = some a) (h0 : a.ph = 0) (hn : a.next = 4) (hl : a.lost = false) : (k.step N hz C z).ph = 1 ∧ (k.step N hz C z).val = a.value := by
 have e2 : k.step N hz C z = k.grab N (a.go a.slot.toNat (N + a.slot.toNat) C) := by unfold Ge.step; rw [if_neg (by omega), ha]
 have e3 : a.go a.slot.toNat (N + a.slot.toNat) C = { a with next := 5, ph := 1 } := by unfold Ta.go; rw [if_neg (by omega), if_neg (by omega), if_neg (by omega), if_neg (by omega), if_neg (by omega), if_neg (by rw [hl]; decide)]
 rw [e2, e3]
 unfold Ge.grab
 rw [if_pos rfl]
 exact ⟨rfl, rfl⟩
theorem Gone.next (h : YTr B N Y m) {p j : Nat} {x : Int} (hb : b < m) (hG : Gone Y b p j x) : Gone Y (b + 1) p j x := by
 obtain ⟨s, g, dg, s1, s2, s3, s4, s5, s6, s7, s8, s9, s10⟩ := hG
 have hA := h.all b (by omega)
 have hhow := h.how b hb
 have hmv := h.moves (show b ≤ b + 1 by omega) (by omega)
 rcases s10 with ⟨w, k, a, r1, r2, r3, r4, r5⟩ | ⟨r1, r2, r3⟩
 ·obtain ⟨_, _, _, kp, dg', k5, k6, k7, k8, _⟩ := hA.ok.task w _ g r1
  rw [s6] at k5
  cases k5
  have hF := hA.ok.getF r1
  obtain ⟨_, a2, _⟩ := hF.ta a r2
  generalize hZ : Y (b + 1) = Z at hhow hmv
  cases hhow with
  | rest => exact ⟨s, g, dg, s1, by omega, s3, s4, by rw [hZ]; omega, by rw [hZ]; exact s6, s7, s8, s9, .inl ⟨w, k, a, by rw [hZ]; exact r1, r2, r3, r4, r5⟩⟩
  | pass n hn => exact ⟨s, g, dg, s1, by omega, s3, s4, by rw [hZ]; omega, by rw [hZ]; exact s6, s7, s8, s9, .inl ⟨w, k, a, by rw [hZ]; exact r1, r2, r3, r4, r5⟩⟩
  | call w0 take kd e x s' h1 h2 h3 =>
   refine ⟨s, g, dg, s1, by omega, s3, s4, by rw [hZ]; omega, ?_, s7, s8, s9, .inl ⟨w, k, a, ?_, r2, r3, r4, r5⟩⟩
   ·rw [hZ]
    show ((Y b).ds ++ [_])[g]? = some dg
    rw [List.getElem?_append_left (List.getElem?_eq_some_iff.1 s6).1]
    exact s6
   ·rw [hZ]
    show ((Y b).ts.set w0 _)[w]? = _
    rw [List.getElem?_set_ne (fun e => by rw [e, r1] at h1; cases h1)]
    exact r1
  | step w0 T i z h1 h2 =>
   by_cases hw : w0 = w
   ·subst hw
    rw [r1] at h1
    cases h1
    obtain ⟨l1, l2⟩ := zID (N := N) (C := (Y b).C) (hz := 2 * N + w0) (z := z) hF.ph r2 a2 r3 r4
    have hph : ¬ ((Wk.ge k).step (plOf B N w0) (Y b).C (Y b).now z).ph = 0 := by
     show ¬ (k.step N (2 * N + w0) (Y b).C z).ph = 0
     omega
    have e4 : dg.over (Y b).moves ((Wk.ge k).step (plOf B N w0) (Y b).C (Y b).now z) = { dg with till := (Y b).moves, ok := true, v := (k.step N (2 * N + w0) (Y b).C z).val, lo := 0, hi := 0 } := if_pos l1
    refine ⟨s, g, { dg with till := (Y b).moves, ok := true, v := (k.step N (2 * N + w0) (Y b).C z).val, lo := 0, hi := 0 }, s1, by omega, s3, s4, by rw [hZ]; omega, ?_, s7, s8, s9, .inr ⟨rfl, ?_, ?_⟩⟩
    ·rw [hZ]
     show (if ((Wk.ge k).step (plOf B N w0) (Y b).C (Y b).now z).ph = 0 then (Y b).ds else (Y b).ds.modify g (fun d => d.over (Y b).moves ((Wk.ge k).step (plOf B N w0) (Y b).C (Y b).now z)))[g]? = _
     rw [if_neg hph, zBc s6, e4]
    ·show ((Y s).moves : Int) < ((Y b).moves : Int)
     omega
    ·exact l2.trans r5
   ·refine ⟨s, g, dg, s1, by omega, s3, s4, by rw [hZ]; omega, ?_, s7, s8, s9, .inl ⟨w, k, a, ?_, r2, r3, r4, r5⟩⟩
    ·rw [hZ]
     show (if (T.step (plOf B N w0) (Y b).C (Y b).now z).ph = 0 then (Y b).ds else (Y b).ds.modify i (fun d => d.over (Y b).moves (T.step (plOf B N w0) (Y b).C (Y b).now z)))[g]? = _
     split
     ·exact s6
     ·obtain ⟨_, _, _, _, d2, q5, q6, _⟩ := hA.ok.task w0 _ i h1
      rw [zBp (fun e => ?_)]
      ·exact s6
      ·rw [e, s6] at q5
       cases q5
       rw [k6] at q6
       omega
    ·rw [hZ]
     show (if (T.step (plOf B N w0) (Y b).C (Y b).now z).ph = 0 then (Y b).ts.set w0 (some (T.step (plOf B N w0) (Y b).C (Y b).now z, i)) else (Y b).ts.set w0 none)[w]? = _
     split
     ·rw [List.getElem?_set_ne hw]
      exact r1
     ·rw [List.getElem?_set_ne hw]
      exact r1
 ·exact ⟨s, g, dg, s1, by omega, s3, s4, by omega, hhow.over hA.ok s6 (.inl r1), s7, s8, s9, .inr ⟨r1, r2, r3⟩⟩
theorem PutAt.there (h : YTr B N Y m) {i p j : Nat} {d : Dd} (hP : PutAt Y B N i d p j) : ∀ {b : Nat}, p < b → b ≤ m → (Y b).C.getD j 0 = (Y (p + 1)).C.getD j 0 ∨ Gone Y b p j d.x := by
 intro b hpb hb
 induction b with
 | zero => omega
 | succ b ih =>
  by_cases hq : p = b
  ·rw [hq]
   exact .inl rfl
  rcases ih (by omega) (by omega) with hs | hg
  ·by_cases hne : (Y (b + 1)).C.getD j 0 = (Y b).C.getD j 0
   ·exact .inl (hne.trans hs)
   right
   have hA := h.all b (by omega)
   have hhow := h.how b (by omega)
   have hlv : (Y b).C.getD j 0 % 4 = 1 := by rw [hs]; exact hP.live
   have hj := hP.lt
   generalize hZ : Y (b + 1) = Z at hhow hne
   cases hhow with
   | rest => exact absurd rfl hne
   | pass n hn => exact absurd rfl hne
   | call w0 take kd e x s' h1 h2 h3 => exact absurd rfl hne
   | step w T g z hw ha =>
    obtain ⟨_, _, _, _, dg, k5, k6, k7, k8, _⟩ := hA.ok.task w T g hw
    have hkd := hA.cok.kind w T g dg hw k5
    have hlt : w < (Y b).ts.length := (List.getElem?_eq_some_iff.1 hw).1
    cases T with
    | pu k =>
     exfalso
     have hF := hA.ok.putF h.cf h.hT hA.len hw
     have b1 := hF.lo
     have b2 := hF.hi
     have b3 := hF.n1
     have hT := h.hT
     have hlen := hA.len
     obtain ⟨m0, _⟩ := h.cf.own h.hT hF.wT
     have hn := hF.ok.at' hF.ph
     rcases zEZ (nb := 2 * N + B.T) (C := (Y b).C) (now := (Y b).now) hF.ph (by rcases hn with h | h | h | h <;> omega) (by omega) (by omega : k.cl.slot.toNat < N) (q := j) (by omega) with hh | ⟨_, hh, _⟩ | ⟨n3, hh⟩
     ·exact hne hh
     ·omega
     ·rcases hn with ⟨a1, _⟩ | ⟨a1, _⟩ | ⟨a1, _⟩ | ⟨a1, a2, _⟩
      ·omega
      ·omega
      ·omega
      ·have hP := (hA.aok.put w k g hw).word hF.ph (.inl a2)
       rw [← hh] at hP
       exact hP.1 hlv
    | ge k =>
     obtain ⟨a, t1, t2, t3, t4, t5, t6, t7⟩ := zB8 hA.ok hw hj hne
     have hM := (h.gets b (by omega)).run w k g dg hw k5
     obtain ⟨f, f1, f2, _, f4⟩ := hM.ex
     obtain ⟨c, j', c1, c2, c3, c4, c5, c6, c7⟩ := (f4 a t1).at'
     obtain rfl : j' = j := by omega
     obtain ⟨u, u1, u2, u3⟩ := c7 t2 t3
     have hwu : (Y u).C.getD j' 0 = (Y (p + 1)).C.getD j' 0 := by
      rw [h.stays hj u1 (Nat.le_of_lt u2) (by omega) (by rw [← c6, t5]), ← c6, t5, hs]
     obtain ⟨i2, d2, q, q1, q2, q3, q4, q5, q6, q7⟩ := (h.puts u (by omega)).live j' hj (by rw [hwu]; exact hP.live)
     obtain ⟨rfl, _⟩ := zEH h hP q5 (by omega) (by omega) (by rw [← q6, hwu])
     have hx : a.value = d.x := by rw [u3, q7, ← q5.value, hP.value]
     have hdd := (hA.ok.deed g dg k5).2.2.1
     have e7 := t7 z
     have hph : ((Wk.ge k).step (plOf B N w) (Y b).C (Y b).now z).ph = 0 := by
      show (k.step N (2 * N + w) (Y b).C z).ph = 0
      rw [e7]
      exact hA.ok.getF hw |>.ph
     have ets : (Y (b + 1)).ts[w]? = some (some (Wk.ge { k with ta := some { a with next := 4 } }, g)) := by
      rw [hZ]
      show (if ((Wk.ge k).step (plOf B N w) (Y b).C (Y b).now z).ph = 0 then (Y b).ts.set w (some ((Wk.ge k).step (plOf B N w) (Y b).C (Y b).now z, g)) else (Y b).ts.set w none)[w]? = _
      rw [if_pos hph, List.getElem?_set_self hlt]
      show some (some (Wk.ge (k.step N (2 * N + w) (Y b).C z), g)) = _
      rw [e7]
     have eds : (Y (b + 1)).ds[g]? = some dg := by
      rw [hZ]
      show (if ((Wk.ge k).step (plOf B N w) (Y b).C (Y b).now z).ph = 0 then (Y b).ds else (Y b).ds.modify g (fun d => d.over (Y b).moves ((Wk.ge k).step (plOf B N w) (Y b).C (Y b).now z)))[g]? = _
      rw [if_pos hph]
      exact k5
     have hlen := hA.len
     have hT := h.hT
     refine ⟨b, g, dg, by omega, by omega, hs, ?_, ?_, eds, hkd, by omega, ⟨w, k6, ⟨k, hw⟩, ?_⟩, .inl ⟨w, _, _, ets, rfl, rfl, t3, hx⟩⟩
     ·rw [hZ]
      show (k.cells N (2 * N + w) (Y b).C).getD j' 0 = _
      rw [t6, zAJ _ (by omega), t5, hs]
     ·rw [hZ]
      show (Y b).moves < (Y b).moves + 1
      omega
     ·rw [ets, hw]
      intro hh
      have hh' := Wk.ge.inj (Prod.mk.inj (Option.some.inj (Option.some.inj hh))).1
      have h5 : k.ta = some { a with next := 4 } := by rw [← hh']
      rw [t1] at h5
      have h6 : a = { a with next := 4 } := Option.some.inj h5
      have h7 : a.next = 4 := by rw [h6]
      omega
  ·exact .inr (hg.next h (by omega))
end
end
section
open Go.RowKit
structure Took (Y : Nat → Yd) (N m p j : Nat) (x : Int) (g c s : Nat) (dg : Dd) : Prop where
 pc : p < c
 cs : c ≤ s
 sm : s < m
 was : (Y s).C.getD j 0 = (Y (p + 1)).C.getD j 0
 new : (Y (s + 1)).C.getD j 0 = tkW ((Y (p + 1)).C.getD j 0)
 isEnd : IsEnd ((Y c).C.take N) dg.e j
 deed : (Y m).ds[g]? = some dg
 kd : dg.kd = 1
 fr : dg.fr < (Y c).moves
 out : dg.till = -1 ∨ (dg.ok = true ∧ (Y s).moves < dg.till ∧ dg.v = x)
 run : ∃ w : Nat, (∃ k, (Y s).ts[w]? = some (some (.ge k, g))) ∧ (Y (s + 1)).ts[w]? ≠ (Y s).ts[w]?
section
variable {B : YB} {N m : Nat} {Y : Nat → Yd}
theorem YTr.later (h : YTr B N Y m) {a : Nat} : ∀ {b : Nat}, a ≤ b → b ≤ m → YLater (Y a) (Y b) := by
 intro b hab hb
 induction b with
 | zero =>
  obtain rfl : a = 0 := by omega
  exact YLater.refl _
 | succ b ih =>
  by_cases hq : a = b + 1
  ·rw [← hq]
   exact YLater.refl _
  ·exact (ih (by omega) (by omega)).trans ((h.mv b (by omega)).later (h.all b (by omega)).ok)
theorem Gone.took (h : YTr B N Y m) {i p j : Nat} {d : Dd} (hP : PutAt Y B N i d p j) (hG : Gone Y m p j d.x) : ∃ g c s dg, Took Y N m p j d.x g c s dg := by
 obtain ⟨s, g, dg, s1, s2, s3, s4, s5, s6, s7, s8, ⟨w, s9, ⟨k, s10⟩, s11⟩, s12⟩ := hG
 have hA := h.all s (by omega)
 have hj := hP.lt
 have hlv := hP.live
 have hf := ((h.fit (p + 1) (by omega)) j).1
 have htk := (zAT hf).1
 have hne : (Y (s + 1)).C.getD j 0 ≠ (Y s).C.getD j 0 := fun e => by
  rw [s4, s3] at e
  omega
 have hmv : ∃ z, Y (s + 1) = (Y s).step (plOf B N w) w (.ge k) g z := by
  have hhow := h.how s (by omega)
  generalize hZ : Y (s + 1) = Z at hhow hne s11
  cases hhow with
  | rest => exact absurd rfl hne
  | pass n hn => exact absurd rfl hne
  | call w0 take kd e x s' h1 h2 h3 => exact absurd rfl hne
  | step w0 T i0 z h1 h2 =>
   have : w0 = w := Classical.byContradiction fun hw => s11 (by
    show (if (T.step (plOf B N w0) (Y s).C (Y s).now z).ph = 0 then (Y s).ts.set w0 (some (T.step (plOf B N w0) (Y s).C (Y s).now z, i0)) else (Y s).ts.set w0 none)[w]? = _
    split <;> exact List.getElem?_set_ne hw)
   subst this
   rw [s10] at h1
   cases h1
   exact ⟨z, rfl⟩
 obtain ⟨z, hmv⟩ := hmv
 have hne' : (k.cells N (2 * N + w) (Y s).C).getD j 0 ≠ (Y s).C.getD j 0 := by
  intro e
  apply hne
  rw [hmv]
  exact e
 obtain ⟨a, t1, t2, t3, t4, t5, _, _⟩ := zB8 hA.ok s10 hj hne'
 obtain ⟨_, _, _, _, d0, k5, _⟩ := hA.ok.task w _ g s10
 have hM := (h.gets s (by omega)).run w k g d0 s10 k5
 obtain ⟨f, f1, f2, _, f4⟩ := hM.ex
 obtain ⟨c, j', c1, c2, c3, c4, c5, c6, c7⟩ := (f4 a t1).at'
 obtain rfl : j' = j := by omega
 obtain ⟨dg', l1, l2, l3, l4, l5, l6, l7, _⟩ := (h.later (show s ≤ m by omega) (Nat.le_refl _)).deed g d0 k5
 rw [s6] at l1
 cases l1
 have hword : (Y c).C.getD j' 0 = (Y (p + 1)).C.getD j' 0 := by rw [← c6, t5, s3]
 have hpc : p < c := Nat.lt_of_not_le fun hcp => by
  have := h.stays hj (a := c) (b := p) (c := p + 1) hcp (by omega) (by omega) hword
  have hfree := hP.free
  rw [this, hword] at hfree
  exact hfree hlv
 have hfc := h.moves c1 (by omega)
 refine ⟨g, c, s, dg, hpc, by omega, s2, s3, s4, by rw [l4, ← hM.e]; exact c5, s6, s7, by omega, ?_, w, ⟨k, s10⟩, s11⟩
 rcases s12 with ⟨w', k', a', r1, _⟩ | ⟨r1, r2, r3⟩
 ·obtain ⟨_, _, _, _, d2, q5, _, q7, _⟩ := (h.all m (Nat.le_refl _)).ok.task w' _ g r1
  rw [s6] at q5
  cases q5
  exact .inl q7
 ·exact .inr ⟨r1, r2, r3⟩
theorem zGr (h : YTr B N Y m) {i i' p p' j j' g c c' s s' : Nat} {d d' dg dg' : Dd} (h1 : PutAt Y B N i d p j) (h2 : PutAt Y B N i' d' p' j') (t1 : Took Y N m p j d.x g c s dg) (t2 : Took Y N m p' j' d'.x g c' s' dg') (hone : s = s') : p = p' ∧ i = i' ∧ j = j' := by
 subst hone
 have l1 := h1.live
 have l2 := h2.live
 have k1 := t1.sm
 have k2 := t1.pc
 have k3 := t1.cs
 have k4 := t2.pc
 have k5 := t2.cs
 have f1 := ((h.fit (p + 1) (by omega)) j).1
 have f2 := ((h.fit (p' + 1) (by omega)) j').1
 have e1 := (zAT f1).1
 have e2 := (zAT f2).1
 have n1 : (Y (s + 1)).C.getD j 0 ≠ (Y s).C.getD j 0 := fun e => by
  rw [t1.new, t1.was] at e
  omega
 have n2 : (Y (s + 1)).C.getD j' 0 ≠ (Y s).C.getD j' 0 := fun e => by
  rw [t2.new, t2.was] at e
  omega
 obtain ⟨w, ⟨k, r1⟩, r2⟩ := t1.run
 have hA := h.all s (by omega)
 have hhow := h.how s (by omega)
 have hjj : j = j' := by
  generalize Y (s + 1) = Z at hhow n1 n2 r2
  cases hhow with
  | rest => exact absurd rfl n1
  | pass n hn => exact absurd rfl n1
  | call w0 take kd e x s' h1 h2 h3 => exact absurd rfl n1
  | step w0 T i0 z q1 q2 =>
   have : w0 = w := Classical.byContradiction fun hw => r2 (by
    show (if (T.step (plOf B N w0) (Y s).C (Y s).now z).ph = 0 then (Y s).ts.set w0 (some (T.step (plOf B N w0) (Y s).C (Y s).now z, i0)) else (Y s).ts.set w0 none)[w]? = _
    split <;> exact List.getElem?_set_ne hw)
   subst this
   rw [r1] at q1
   cases q1
   obtain ⟨a, u1, _, _, u4, _⟩ := zB8 hA.ok r1 h1.lt n1
   obtain ⟨a', v1, _, _, v4, _⟩ := zB8 hA.ok r1 h2.lt n2
   rw [u1] at v1
   cases v1
   omega
 subst hjj
 have hw : (Y (p + 1)).C.getD j 0 = (Y (p' + 1)).C.getD j 0 := by rw [← t1.was, t2.was]
 obtain ⟨q1, q2⟩ := zEH h h1 h2 (by omega) (by omega) hw
 exact ⟨q1, q2, rfl⟩
theorem zD8 {s w g : Nat} {k : Ge} (hhow : YHow B N (Y s) (Y (s + 1))) (h1 : (Y s).ts[w]? = some (some (.ge k, g))) (h2 : (Y (s + 1)).ts[w]? ≠ (Y s).ts[w]?) (h3 : (Y (s + 1)).C ≠ (Y s).C) : ∃ z, Y (s + 1) = (Y s).step (plOf B N w) w (.ge k) g z := by
 generalize Y (s + 1) = Z at hhow h2 h3
 cases hhow with
 | rest => exact absurd rfl h2
 | pass n hn => exact absurd rfl h2
 | call w0 take kd e x s' h1 h2 h3' => exact absurd rfl h3
 | step w0 T i0 z q1 q2 =>
  have : w0 = w := Classical.byContradiction fun hw => h2 (by
   show (if (T.step (plOf B N w0) (Y s).C (Y s).now z).ph = 0 then (Y s).ts.set w0 (some (T.step (plOf B N w0) (Y s).C (Y s).now z, i0)) else (Y s).ts.set w0 none)[w]? = _
   split <;> exact List.getElem?_set_ne hw)
  subst this
  rw [h1] at q1
  cases q1
  exact ⟨z, rfl⟩
theorem Took.now (h : YTr B N Y m) {i p j : Nat} {d : Dd} (hP : PutAt Y B N i d p j) {g c s : Nat} {x : Int} {dg : Dd} (t : Took Y N m p j x g c s dg) : ∃ (w : Nat) (k : Ge) (a : Ta), (Y s).ts[w]? = some (some (.ge k, g)) ∧ k.ta = some a ∧ a.next = 3 := by
 obtain ⟨w, ⟨k, r1⟩, r2⟩ := t.run
 have k1 := t.sm
 have k2 := t.pc
 have k3 := t.cs
 have l1 := hP.live
 have f1 := ((h.fit (p + 1) (by omega)) j).1
 have e1 := (zAT f1).1
 have n1 : (Y (s + 1)).C.getD j 0 ≠ (Y s).C.getD j 0 := fun e => by
  rw [t.new, t.was] at e
  omega
 obtain ⟨z, hz⟩ := zD8 (h.how s (by omega)) r1 r2 (fun e => n1 (by rw [e]))
 obtain ⟨a, u1, u2, _⟩ := zB8 (h.all s (by omega)).ok r1 hP.lt (q := j) (fun e => n1 (by rw [hz]; exact e))
 exact ⟨w, k, a, r1, u1, u2⟩
theorem zEh (h : YTr B N Y m) {i i' p p' j j' g c c' s s' : Nat} {d d' dg dg' : Dd} (h1 : PutAt Y B N i d p j) (h2 : PutAt Y B N i' d' p' j') (t1 : Took Y N m p j d.x g c s dg) (t2 : Took Y N m p' j' d'.x g c' s' dg') : ¬ s < s' := by
 intro hlt
 have k1 := t1.sm
 have k2 := t1.pc
 have k3 := t1.cs
 have k4 := t2.sm
 have l1 := h1.live
 have hj := h1.lt
 have f1 := ((h.fit (p + 1) (by omega)) j).1
 have e1 := (zAT f1).1
 rcases h1.there h (show p < s' by omega) (by omega) with hs | ⟨s2, g2, dg2, q1, q2, q3, q4, q5, q6, q7, q8, ⟨w2, q9, ⟨k2', q10⟩, q11⟩, q12⟩
 ·have := h.stays hj (a := p + 1) (b := s + 1) (c := s') (by omega) (by omega) (by omega) hs.symm
  rw [t1.new] at this
  omega
 ·have hss : s2 = s := by
   rcases Nat.lt_trichotomy s2 s with hl | he | hl
   ·have := h.stays hj (a := s2) (b := s2 + 1) (c := s) (by omega) (by omega) (by omega) (by rw [q3, t1.was])
    rw [q4, q3] at this
    omega
   ·exact he
   ·have := h.stays hj (a := s) (b := s + 1) (c := s2) (by omega) (by omega) (by omega) (by rw [q3, t1.was])
    rw [t1.new, t1.was] at this
    omega
  subst hss
  obtain ⟨w, ⟨k, r1⟩, r2⟩ := t1.run
  have hw := zCd (h.how s2 (by omega)) r2 q11
  subst hw
  rw [r1] at q10
  have hg : g = g2 := (Prod.mk.inj (Option.some.inj (Option.some.inj q10))).2
  subst hg
  obtain ⟨w3, k3, a3, v1, v2, v3⟩ := t2.now h h2
  obtain ⟨_, _, _, _, d3, x5, x6, x7, x8, _⟩ := (h.all s' (by omega)).ok.task w3 _ g v1
  rw [q6] at x5
  cases x5
  rcases q12 with ⟨w4, k4', a4, y1, y2, y3, _⟩ | ⟨y1, _⟩
  ·obtain ⟨_, _, _, _, d4, z5, z6, _⟩ := (h.all s' (by omega)).ok.task w4 _ g y1
   rw [q6] at z5
   cases z5
   rw [x6] at z6
   obtain rfl : w3 = w4 := by omega
   rw [v1] at y1
   cases y1
   rw [v2] at y2
   cases y2
   omega
  ·rw [y1] at x8
   cases x8
end
end
section
open Go.RowKit
def dDo (row : List Int) (d : Dd) : Option (List Int) :=
 if d.kd = 0 then if d.ok = true then some (if d.e = 0 then d.x :: row else row ++ [d.x]) else some row
 else if d.ok = true then
  if row = [] then none
  else if d.e = 0 then if row.getD 0 0 = d.v then some (row.drop 1) else none
  else if row.getD (row.length - 1) 0 = d.v then some (row.take (row.length - 1)) else none
 else if row = [] then some row else none
def dRun : List Int → List Dd → Option (List Int)
 | row, [] => some row
 | row, d :: l => match dDo row d with
  | some r => dRun r l
  | none => none
theorem zH3 {row r : List Int} {d : Dd} (h : dDo row d = some r) : r.length ≤ row.length + 1 := by
 unfold dDo at h
 split at h
 ·split at h
  ·cases h
   split
   ·simp
   ·simp
  ·cases h
   omega
 ·split at h
  ·split at h
   ·cases h
   ·split at h
    ·split at h
     ·cases h
      rw [List.length_drop]
      omega
     ·cases h
    ·split at h
     ·cases h
      rw [List.length_take]
      omega
     ·cases h
  ·split at h
   ·cases h
    omega
   ·cases h
def dTurn (d : Dd) : Dd := { d with e := 1 - d.e }
def dAns (row : List Int) (d : Dd) : Dd :=
 if 0 ≤ d.till then d else { d with ok := true, v := if d.kd = 1 ∧ row ≠ [] then (if d.e = 1 then row.getD (row.length - 1) 0 else row.getD 0 0) else 0, lo := 0, hi := 0 }
def LFree (l : List Dd) (D : Nat → Prop) (i : Nat) (d : Dd) : Prop := ¬ D i ∧ ∀ (k : Nat) (o : Dd), l[k]? = some o → D k ∨ ¬ dBef o d
inductive Lin (l : List Dd) : (Nat → Prop) → List Int → List Nat → Prop
 | nil {D : Nat → Prop} {row : List Int} (h : ∀ (i : Nat) (d : Dd), l[i]? = some d → 0 ≤ d.till → D i) : Lin l D row []
 | cons {D : Nat → Prop} {row r : List Int} {i : Nat} {d : Dd} {s : List Nat} (hd : l[i]? = some d) (hf : LFree l D i d) (hr : dDo row (dAns row d) = some r) (h : Lin l (fun j => D j ∨ j = i) r s) : Lin l D row (i :: s)
def oRun (l : List Dd) : List Int → List Nat → Option (List Int)
 | row, [] => some row
 | row, i :: s => match l[i]? with
  | some d => (dDo row (dAns row d)).bind (fun r => oRun l r s)
  | none => none
theorem zAm {l : List Dd} {row r : List Int} {i : Nat} {d : Dd} {s : List Nat} (hd : l[i]? = some d) (hr : dDo row (dAns row d) = some r) : oRun l row (i :: s) = oRun l r s := by
 rw [oRun, hd]
 show (dDo row (dAns row d)).bind _ = _
 rw [hr]
 rfl
structure Holds (l : List Dd) (D : Nat → Prop) (row : List Int) (s : List Nat) : Prop where
 nodup : s.Nodup
 new : ∀ i ∈ s, ¬ D i
 all : ∀ (i : Nat) (d : Dd), l[i]? = some d → 0 ≤ d.till → D i ∨ i ∈ s
 ahead : ∀ (p i k : Nat) (d o : Dd), s[p]? = some i → l[i]? = some d → l[k]? = some o → dBef o d → D k ∨ ∃ q, q < p ∧ s[q]? = some k
 run : ∃ r, oRun l row s = some r
theorem Lin.holds {l : List Dd} {D : Nat → Prop} {row : List Int} {s : List Nat} (h : Lin l D row s) : Holds l D row s := by
 induction h with
 | nil h => exact ⟨List.nodup_nil, (fun i hi => by cases hi), fun i d hd ht => .inl (h i d hd ht), (fun p i k d o hp => by simp at hp), ⟨_, rfl⟩⟩
 | cons hd hf hr h ih =>
  rename_i D row r i d s
  refine ⟨List.nodup_cons.2 ⟨fun hm => ih.new i hm (.inr rfl), ih.nodup⟩, fun j hj => ?_, fun j e he ht => ?_, fun p j k e o hp he ho hb => ?_, ?_⟩
  ·rcases List.mem_cons.1 hj with rfl | hj
   ·exact hf.1
   ·exact fun hD => ih.new j hj (.inl hD)
  ·rcases ih.all j e he ht with (h1 | rfl) | h1
   ·exact .inl h1
   ·exact .inr List.mem_cons_self
   ·exact .inr (List.mem_cons_of_mem _ h1)
  ·cases p with
   | zero =>
    rw [List.getElem?_cons_zero] at hp
    cases hp
    rw [hd] at he
    cases he
    rcases hf.2 k o ho with h1 | h1
    ·exact .inl h1
    ·exact absurd hb h1
   | succ p =>
    rw [List.getElem?_cons_succ] at hp
    rcases ih.ahead p j k e o hp he ho hb with (h1 | rfl) | ⟨q, hq, h1⟩
    ·exact .inl h1
    ·exact .inr ⟨0, by omega, rfl⟩
    ·exact .inr ⟨q + 1, by omega, by rw [List.getElem?_cons_succ]; exact h1⟩
  ·rw [zAm hd hr]
   exact ih.run
theorem Holds.lin {l : List Dd} : ∀ {s : List Nat} {D : Nat → Prop} {row : List Int}, Holds l D row s → Lin l D row s
 | [], D, row, h => .nil (fun i d hd ht => (h.all i d hd ht).resolve_right (by simp))
 | i :: s, D, row, h => by
  obtain ⟨r2, hr2⟩ := h.run
  obtain ⟨n1, n2⟩ := List.nodup_cons.1 h.nodup
  cases hd : l[i]? with
  | none =>
   rw [oRun, hd] at hr2
   cases hr2
  | some d =>
   cases hr : dDo row (dAns row d) with
   | none =>
    rw [oRun, hd] at hr2
    have hr3 : (dDo row (dAns row d)).bind (fun r => oRun l r s) = some r2 := hr2
    rw [hr] at hr3
    cases hr3
   | some r =>
    rw [zAm hd hr] at hr2
    refine .cons hd ⟨h.new i List.mem_cons_self, fun k o ho => ?_⟩ hr (Holds.lin ⟨n2, fun j hj hD => ?_, fun j e he ht => ?_, fun p j k e o hp he ho hb => ?_, r2, hr2⟩)
    ·by_cases hb : dBef o d
     ·rcases h.ahead 0 i k d o rfl hd ho hb with h1 | ⟨q, hq, _⟩
      ·exact .inl h1
      ·omega
     ·exact .inr hb
    ·rcases hD with hD | rfl
     ·exact h.new j (List.mem_cons_of_mem _ hj) hD
     ·exact n1 hj
    ·rcases h.all j e he ht with h1 | h1
     ·exact .inl (.inl h1)
     ·rcases List.mem_cons.1 h1 with rfl | h1
      ·exact .inl (.inr rfl)
      ·exact .inr h1
    ·rcases h.ahead (p + 1) j k e o (by rw [List.getElem?_cons_succ]; exact hp) he ho hb with h1 | ⟨q, hq, h1⟩
     ·exact .inl (.inl h1)
     ·cases q with
      | zero =>
       rw [List.getElem?_cons_zero] at h1
       cases h1
       exact .inl (.inr rfl)
      | succ q =>
       rw [List.getElem?_cons_succ] at h1
       exact .inr ⟨q, by omega, h1⟩
theorem Lin.same {l : List Dd} {D D' : Nat → Prop} {row : List Int} {s : List Nat} (h : Lin l D row s) (e : ∀ j, D j ↔ D' j) : Lin l D' row s := by
 induction h generalizing D' with
 | nil h => exact .nil (fun i d hd ht => (e i).1 (h i d hd ht))
 | cons hd hf hr h ih => exact .cons hd ⟨fun hh => hf.1 ((e _).2 hh), fun k o ho => (hf.2 k o ho).imp (e k).1 id⟩ hr (ih (fun j => or_congr (e j) Iff.rfl))
theorem zFh {l : List Dd} {D : Nat → Prop} {row : List Int} : (∃ s, Lin l D row s) ↔ ((∀ (i : Nat) (d : Dd), l[i]? = some d → 0 ≤ d.till → D i) ∨ ∃ (i : Nat) (d : Dd) (r : List Int), l[i]? = some d ∧ LFree l D i d ∧ dDo row (dAns row d) = some r ∧ ∃ s, Lin l (fun j => D j ∨ j = i) r s) := by
 constructor
 ·rintro ⟨s, h⟩
  cases h with
  | nil h => exact .inl h
  | cons hd hf hr h => exact .inr ⟨_, _, _, hd, hf, hr, _, h⟩
 ·rintro (h | ⟨i, d, r, hd, hf, hr, s, h⟩)
  ·exact ⟨[], .nil h⟩
  ·exact ⟨i :: s, .cons hd hf hr h⟩
end
section
open Go.RowKit
structure It where
 i : Nat
 k : Int
 p : Nat
 x : Int
 tk : Option (Nat × Nat × Nat)
def It.ops (a : It) : List Nat := match a.tk with
 | none => [a.i]
 | some t => [a.i, t.1]
structure Its (bef : Nat → Nat → Prop) (I : List It) : Prop where
 pp : ∀ a ∈ I, ∀ b ∈ I, bef a.i b.i → a.k < b.k ∧ a.p < b.p
 pg : ∀ a ∈ I, ∀ b ∈ I, ∀ t, b.tk = some t → bef a.i t.1 → a.p < t.2.1
 gp : ∀ a ∈ I, ∀ b ∈ I, ∀ t, a.tk = some t → bef t.1 b.i → t.2.2 < b.p ∧ a.k < b.k
 gg : ∀ a ∈ I, ∀ b ∈ I, ∀ t u, a.tk = some t → b.tk = some u → bef t.1 u.1 → t.2.2 < u.2.1
 tm : ∀ a ∈ I, ∀ t, a.tk = some t → a.p < t.2.1 ∧ t.2.1 ≤ t.2.2
 own : ∀ a ∈ I, ∀ t, a.tk = some t → t.1 ≠ a.i
 one : ∀ a ∈ I, ∀ b ∈ I, ∀ o, o ∈ a.ops → o ∈ b.ops → a = b
 key : ∀ a ∈ I, ∀ b ∈ I, a.k = b.k → a = b
def TopS (I : List It) : Prop := ∀ a ∈ I, ∀ b ∈ I, ∀ t, a.tk = some t → b.p < t.2.1 → (∀ u, b.tk = some u → t.2.1 ≤ u.2.2) → b.k ≤ a.k
structure IsIt (l : List Dd) (a : It) : Prop where
 put : ∃ d, l[a.i]? = some d ∧ d.kd = 0 ∧ d.ok = true ∧ d.e = 1 ∧ d.x = a.x ∧ 0 ≤ d.till
 get : ∀ t, a.tk = some t → ∃ d, l[t.1]? = some d ∧ d.kd = 1 ∧ d.e = 1 ∧ (0 ≤ d.till → d.ok = true ∧ d.v = a.x)
structure Ordd (bef : Nat → Nat → Prop) (I : List It) (O : List Nat) : Prop where
 nodup : O.Nodup
 mem : ∀ o, o ∈ O ↔ ∃ a ∈ I, o ∈ a.ops
 ahead : O.Pairwise (fun a b => ¬ bef b a)
section
variable {bef : Nat → Nat → Prop} {I J A B : List It} {l : List Dd} {a b x : It} {o : Nat}
theorem Its.sub (h : Its bef I) (hs : ∀ a ∈ J, a ∈ I) : Its bef J :=
 ⟨fun a ha b hb => h.pp a (hs a ha) b (hs b hb), fun a ha b hb => h.pg a (hs a ha) b (hs b hb), fun a ha b hb => h.gp a (hs a ha) b (hs b hb), fun a ha b hb => h.gg a (hs a ha) b (hs b hb), fun a ha => h.tm a (hs a ha),
  fun a ha => h.own a (hs a ha), fun a ha b hb => h.one a (hs a ha) b (hs b hb), fun a ha b hb => h.key a (hs a ha) b (hs b hb)⟩
theorem TopS.sub (h : TopS I) (hs : ∀ a ∈ J, a ∈ I) : TopS J := fun a ha b hb => h a (hs a ha) b (hs b hb)
theorem It.ops_iff : o ∈ a.ops ↔ o = a.i ∨ ∃ t, a.tk = some t ∧ o = t.1 := by
 unfold It.ops
 cases h : a.tk with
 | none => simp
 | some t => simp
theorem zDu : ∀ I : List It, I ≠ [] → ∃ x ∈ I, ∀ y ∈ I, x.k ≤ y.k
 | [], h => absurd rfl h
 | [a], _ => ⟨a, List.mem_singleton.2 rfl, fun y hy => by rw [List.mem_singleton.1 hy]; exact Int.le_refl _⟩
 | a :: b :: I, _ => by
  obtain ⟨x, hx, h⟩ := zDu (b :: I) (by simp)
  by_cases hq : a.k ≤ x.k
  ·refine ⟨a, List.mem_cons_self, fun y hy => ?_⟩
   rcases List.mem_cons.1 hy with rfl | hy
   ·exact Int.le_refl _
   ·exact Int.le_trans hq (h y hy)
  ·refine ⟨x, List.mem_cons_of_mem _ hx, fun y hy => ?_⟩
   rcases List.mem_cons.1 hy with rfl | hy
   ·omega
   ·exact h y hy
def It.early (c : Nat) (a : It) : Bool := match a.tk with
 | none => false
 | some u => decide (u.2.2 < c)
theorem It.early_yes {c : Nat} : a.early c = true ↔ ∃ u, a.tk = some u ∧ u.2.2 < c := by
 unfold It.early
 cases h : a.tk with
 | none => simp
 | some t => simp
theorem Its.begun (h : Its bef I) (ha : a ∈ I) (hb : b ∈ I) {c : Nat} (he : ∃ u, a.tk = some u ∧ u.2.2 < c) (hl : c ≤ b.p) (o o' : Nat) (h1 : o ∈ a.ops) (h2 : o' ∈ b.ops) : ¬ bef o' o := by
 obtain ⟨u, hu, hu2⟩ := he
 obtain ⟨u1, u3⟩ := h.tm a ha u hu
 intro hbf
 rcases It.ops_iff.1 h1 with rfl | ⟨t, ht, rfl⟩
 ·rcases It.ops_iff.1 h2 with rfl | ⟨t', ht', rfl⟩
  ·have := (h.pp b hb a ha hbf).2
   omega
  ·have := (h.gp b hb a ha t' ht' hbf).1
   have := h.tm b hb t' ht'
   omega
 ·rw [hu] at ht
  cases ht
  rcases It.ops_iff.1 h2 with rfl | ⟨t', ht', rfl⟩
  ·have := h.pg b hb a ha u hu hbf
   omega
  ·have := h.gg b hb a ha t' u ht' hu hbf
   have := h.tm b hb t' ht'
   omega
theorem zFV (hI : IsIt l a) (R : List Int) (O : List Nat) : oRun l R (a.i :: O) = oRun l (R ++ [a.x]) O := by
 obtain ⟨d, h1, h2, h3, h4, h5, h6⟩ := hI.put
 refine zAm h1 ?_
 unfold dAns
 rw [if_pos h6]
 unfold dDo
 rw [if_pos h2, if_pos h3, if_neg (by omega), h5]
theorem zIU (hI : IsIt l a) {t : Nat × Nat × Nat} (ht : a.tk = some t) (R : List Int) (O : List Nat) : oRun l (R ++ [a.x]) (t.1 :: O) = oRun l R O := by
 obtain ⟨d, h1, h2, h3, h4⟩ := hI.get t ht
 have hlast : (R ++ [a.x]).getD ((R ++ [a.x]).length - 1) 0 = a.x := by
  rw [List.length_append, List.length_singleton, Nat.add_sub_cancel, List.getD_eq_getElem?_getD, List.getElem?_append_right (Nat.le_refl _), Nat.sub_self]
  rfl
 have hne : R ++ [a.x] ≠ [] := by simp
 have hcut : (R ++ [a.x]).take ((R ++ [a.x]).length - 1) = R := by
  rw [List.length_append, List.length_singleton, Nat.add_sub_cancel, List.take_left]
 refine zAm h1 ?_
 unfold dAns
 by_cases h6 : 0 ≤ d.till
 ·obtain ⟨q1, q2⟩ := h4 h6
  rw [if_pos h6]
  unfold dDo
  rw [if_neg (by omega), if_pos q1, if_neg hne, if_neg (by omega), if_pos (by rw [hlast, q2]), hcut]
 ·rw [if_neg h6, if_pos ⟨h2, hne⟩, if_pos h3, hlast]
  unfold dDo
  rw [if_neg (by show ¬ d.kd = 0; omega), if_pos rfl, if_neg hne, if_neg (by show ¬ d.e = 0; omega), if_pos hlast, hcut]
theorem zA4 : ∀ (n : Nat) (I : List It), I.length ≤ n → Its bef I → TopS I → (∀ a ∈ I, IsIt l a) → (∀ i, ¬ bef i i) → ∃ O F, Ordd bef I O ∧ ((∀ a ∈ I, a.tk ≠ none) → F = []) ∧ ∀ R, oRun l R O = some (R ++ F)
 | 0, I, hn, _, _, _, _ => by
  have : I = [] := List.eq_nil_of_length_eq_zero (by omega)
  subst this
  exact ⟨[], [], ⟨List.nodup_nil, fun o => by simp, .nil⟩, fun _ => rfl, fun R => by rw [oRun, List.append_nil]⟩
 | n + 1, I, hn, h, hT, hI, hr => by
  by_cases he : I = []
  ·subst he
   exact ⟨[], [], ⟨List.nodup_nil, fun o => by simp, .nil⟩, fun _ => rfl, fun R => by rw [oRun, List.append_nil]⟩
  obtain ⟨x, hx, hmin⟩ := zDu I he
  have part : ∀ q : It → Bool, (I.filter (fun y => decide (y.k ≠ x.k) && q y)).length ≤ n ∧ (∀ y, y ∈ I.filter (fun y => decide (y.k ≠ x.k) && q y) ↔ y ∈ I ∧ y.k ≠ x.k ∧ q y = true) := fun q => by
   constructor
   ·have : (I.filter (fun y => decide (y.k ≠ x.k) && q y)).length < I.length := by
     rw [List.length_filter_lt_length_iff_exists]
     exact ⟨x, hx, by simp⟩
    omega
   ·intro y
    rw [List.mem_filter, Bool.and_eq_true, decide_eq_true_eq]
  have hfirst : ∀ y ∈ I, y.k ≠ x.k → ∀ o ∈ y.ops, ¬ bef o x.i := fun y hy hk o ho hb => by
   have hm := hmin y hy
   rcases It.ops_iff.1 ho with rfl | ⟨t, ht, rfl⟩
   ·have := (h.pp y hy x hx hb).1
    omega
   ·have := (h.gp y hy x hx t ht hb).2
    omega
  have apart : ∀ y ∈ I, y.k ≠ x.k → ∀ o ∈ y.ops, o ∉ x.ops := fun y hy hk o ho ho' => hk (by rw [h.one y hy x hx o ho ho'])
  cases htk : x.tk with
  | none =>
   obtain ⟨p1, p2⟩ := part (fun _ => true)
   have hs : ∀ a ∈ I.filter (fun y => decide (y.k ≠ x.k) && true), a ∈ I := fun a ha => ((p2 a).1 ha).1
   obtain ⟨O, F, hO, _, hR⟩ := zA4 n _ p1 (h.sub hs) (hT.sub hs) (fun a ha => hI a (hs a ha)) hr
   have hxo : ∀ o, o ∈ x.ops ↔ o = x.i := fun o => by rw [It.ops_iff, htk]; simp
   refine ⟨x.i :: O, x.x :: F, ⟨List.nodup_cons.2 ⟨fun hm => ?_, hO.nodup⟩, fun o => ?_, List.pairwise_cons.2 ⟨fun o ho => ?_, hO.ahead⟩⟩, fun hall => absurd htk (hall x hx), fun R => ?_⟩
   ·obtain ⟨y, hy, ho⟩ := (hO.mem _).1 hm
    obtain ⟨y1, y2, _⟩ := (p2 y).1 hy
    exact apart y y1 y2 _ ho ((hxo _).2 rfl)
   ·rw [List.mem_cons, hO.mem]
    constructor
    ·rintro (rfl | ⟨y, hy, ho⟩)
     ·exact ⟨x, hx, (hxo _).2 rfl⟩
     ·exact ⟨y, hs y hy, ho⟩
    ·rintro ⟨y, hy, ho⟩
     by_cases hk : y.k = x.k
     ·rw [h.key y hy x hx hk] at ho
      exact .inl ((hxo _).1 ho)
     ·exact .inr ⟨y, (p2 y).2 ⟨hy, hk, rfl⟩, ho⟩
   ·obtain ⟨y, hy, ho'⟩ := (hO.mem _).1 ho
    obtain ⟨y1, y2, _⟩ := (p2 y).1 hy
    exact hfirst y y1 y2 o ho'
   ·rw [zFV (hI x hx), hR, List.append_assoc]
    rfl
  | some t =>
   obtain ⟨t1, t2⟩ := h.tm x hx t htk
   obtain ⟨p1, p2⟩ := part (fun y => y.early t.2.1)
   obtain ⟨q1, q2⟩ := part (fun y => !y.early t.2.1)
   have hsA : ∀ a ∈ I.filter (fun y => decide (y.k ≠ x.k) && y.early t.2.1), a ∈ I := fun a ha => ((p2 a).1 ha).1
   have hsB : ∀ a ∈ I.filter (fun y => decide (y.k ≠ x.k) && !y.early t.2.1), a ∈ I := fun a ha => ((q2 a).1 ha).1
   obtain ⟨OA, FA, hOA, hFA, hRA⟩ := zA4 n _ p1 (h.sub hsA) (hT.sub hsA) (fun a ha => hI a (hsA a ha)) hr
   obtain ⟨OB, FB, hOB, hFB, hRB⟩ := zA4 n _ q1 (h.sub hsB) (hT.sub hsB) (fun a ha => hI a (hsB a ha)) hr
   have inA : ∀ o, o ∈ OA → ∃ y ∈ I, y.k ≠ x.k ∧ (∃ u, y.tk = some u ∧ u.2.2 < t.2.1) ∧ o ∈ y.ops := fun o ho => by
    obtain ⟨y, hy, ho'⟩ := (hOA.mem _).1 ho
    obtain ⟨y1, y2, y3⟩ := (p2 y).1 hy
    exact ⟨y, y1, y2, It.early_yes.1 y3, ho'⟩
   have inB : ∀ o, o ∈ OB → ∃ y ∈ I, y.k ≠ x.k ∧ t.2.1 ≤ y.p ∧ y.early t.2.1 = false ∧ o ∈ y.ops := fun o ho => by
    obtain ⟨y, hy, ho'⟩ := (hOB.mem _).1 ho
    obtain ⟨y1, y2, y3⟩ := (q2 y).1 hy
    have y4 : y.early t.2.1 = false := by
     cases hq : y.early t.2.1 with
     | false => rfl
     | true => rw [hq] at y3; cases y3
    refine ⟨y, y1, y2, ?_, y4, ho'⟩
    apply Nat.le_of_not_lt
    intro hlt
    have h1 := hT x hx y y1 t htk hlt (fun u hu => Nat.le_of_not_lt fun hh => by
     rw [It.early_yes.2 ⟨u, hu, hh⟩] at y4
     cases y4)
    have h2 := hmin y y1
    omega
   have hFA0 : FA = [] := hFA (fun a ha hn => by
    obtain ⟨_, _, y3⟩ := (p2 a).1 ha
    obtain ⟨u, hu, _⟩ := It.early_yes.1 y3
    rw [hn] at hu
    cases hu)
   have hxo : ∀ o, o ∈ x.ops ↔ o = x.i ∨ o = t.1 := fun o => by rw [It.ops_iff, htk]; simp
   have hne := h.own x hx t htk
   refine ⟨x.i :: (OA ++ t.1 :: OB), FB, ⟨?_, fun o => ?_, ?_⟩, fun hall => hFB (fun a ha => hall a (hsB a ha)), fun R => ?_⟩
   ·refine List.nodup_cons.2 ⟨fun hm => ?_, List.nodup_append.2 ⟨hOA.nodup, List.nodup_cons.2 ⟨fun hm => ?_, hOB.nodup⟩, fun o ho o' ho' => ?_⟩⟩
    ·rcases List.mem_append.1 hm with hm | hm
     ·obtain ⟨y, y1, y2, _, y4⟩ := inA _ hm
      exact apart y y1 y2 _ y4 ((hxo _).2 (.inl rfl))
     ·rcases List.mem_cons.1 hm with hm | hm
      ·exact hne hm.symm
      ·obtain ⟨y, y1, y2, _, _, y4⟩ := inB _ hm
       exact apart y y1 y2 _ y4 ((hxo _).2 (.inl rfl))
    ·obtain ⟨y, y1, y2, _, _, y4⟩ := inB _ hm
     exact apart y y1 y2 _ y4 ((hxo _).2 (.inr rfl))
    ·rintro rfl
     obtain ⟨y, y1, y2, ⟨u, y3, y5⟩, y4⟩ := inA _ ho
     rcases List.mem_cons.1 ho' with rfl | hm
     ·exact apart y y1 y2 _ y4 ((hxo _).2 (.inr rfl))
     ·obtain ⟨z, z1, z2, _, z5, z4⟩ := inB _ hm
      have hyz := h.one y y1 z z1 _ y4 z4
      rw [← hyz, It.early_yes.2 ⟨u, y3, y5⟩] at z5
      cases z5
   ·rw [List.mem_cons, List.mem_append, List.mem_cons]
    constructor
    ·rintro (rfl | hm | rfl | hm)
     ·exact ⟨x, hx, (hxo _).2 (.inl rfl)⟩
     ·obtain ⟨y, y1, _, _, y4⟩ := inA _ hm
      exact ⟨y, y1, y4⟩
     ·exact ⟨x, hx, (hxo _).2 (.inr rfl)⟩
     ·obtain ⟨y, y1, _, _, _, y4⟩ := inB _ hm
      exact ⟨y, y1, y4⟩
    ·rintro ⟨y, hy, ho⟩
     by_cases hk : y.k = x.k
     ·rw [h.key y hy x hx hk] at ho
      rcases (hxo _).1 ho with e | e
      ·exact .inl e
      ·exact .inr (.inr (.inl e))
     ·cases hq : y.early t.2.1 with
      | true => exact .inr (.inl ((hOA.mem _).2 ⟨y, (p2 y).2 ⟨hy, hk, hq⟩, ho⟩))
      | false => exact .inr (.inr (.inr ((hOB.mem _).2 ⟨y, (q2 y).2 ⟨hy, hk, by rw [hq]; rfl⟩, ho⟩)))
   ·refine List.pairwise_cons.2 ⟨fun o ho => ?_, List.pairwise_append.2 ⟨hOA.ahead, List.pairwise_cons.2 ⟨fun o ho hb => ?_, hOB.ahead⟩, fun o ho o' ho' => ?_⟩⟩
    ·rcases List.mem_append.1 ho with hm | hm
     ·obtain ⟨y, y1, y2, _, y4⟩ := inA _ hm
      exact hfirst y y1 y2 o y4
     ·rcases List.mem_cons.1 hm with rfl | hm
      ·intro hb
       have := (h.gp x hx x hx t htk hb).1
       omega
      ·obtain ⟨y, y1, y2, _, _, y4⟩ := inB _ hm
       exact hfirst y y1 y2 o y4
    ·obtain ⟨y, y1, y2, y3, _, y4⟩ := inB _ ho
     rcases It.ops_iff.1 y4 with rfl | ⟨u, hu, rfl⟩
     ·have := h.pg y y1 x hx t htk hb
      omega
     ·have := h.gg y y1 x hx u t hu htk hb
      have := h.tm y y1 u hu
      omega
    ·obtain ⟨y, y1, y2, ⟨u, y3, y5⟩, y4⟩ := inA _ ho
     rcases List.mem_cons.1 ho' with rfl | hm
     ·intro hb
      rcases It.ops_iff.1 y4 with rfl | ⟨u', hu', rfl⟩
      ·have := (h.gp x hx y y1 t htk hb).1
       have := h.tm y y1 u y3
       omega
      ·rw [y3] at hu'
       cases hu'
       have := h.gg x hx y y1 t u htk y3 hb
       have := h.tm y y1 u y3
       omega
     ·obtain ⟨z, z1, z2, z3, z5, z4⟩ := inB _ hm
      exact h.begun y1 z1 ⟨u, y3, y5⟩ z3 o o' y4 z4
   ·have hrun : ∀ (O1 O2 : List Nat) (R R' : List Int), oRun l R O1 = some R' → oRun l R (O1 ++ O2) = oRun l R' O2 := by
     intro O1
     induction O1 with
     | nil => intro O2 R R' hh; cases hh; rfl
     | cons o O1 ih =>
      intro O2 R R' hh
      rw [List.cons_append, oRun]
      rw [oRun] at hh
      cases hd : l[o]? with
      | none => rw [hd] at hh; cases hh
      | some d =>
       rw [hd] at hh
       have hh' : (dDo R (dAns R d)).bind (fun r => oRun l r O1) = some R' := hh
       show (dDo R (dAns R d)).bind (fun r => oRun l r (O1 ++ O2)) = _
       cases hq : dDo R (dAns R d) with
       | none => rw [hq] at hh'; cases hh'
       | some r =>
        rw [hq] at hh'
        exact ih O2 r R' hh'
    rw [zFV (hI x hx), hrun OA _ _ _ (hRA (R ++ [x.x])), hFA0, List.append_nil, zIU (hI x hx) htk, hRB]
end
end
section
open Go.RowKit
structure QRel (r : Nat → Nat → Prop) (I : List It) : Prop where
 pp : ∀ a ∈ I, ∀ b ∈ I, r a.i b.i → a.k < b.k ∧ a.p < b.p
 pg : ∀ a ∈ I, ∀ b ∈ I, ∀ t, b.tk = some t → (r a.i t.1 ↔ a.p < t.2.1)
 gp : ∀ a ∈ I, ∀ b ∈ I, ∀ t, a.tk = some t → r t.1 b.i → t.2.2 < b.p ∧ a.k < b.k
 gg : ∀ a ∈ I, ∀ b ∈ I, ∀ t u, a.tk = some t → b.tk = some u → (r t.1 u.1 ↔ t.2.1 < u.2.1)
 thru : ∀ a ∈ I, ∀ b ∈ I, ∀ c ∈ I, ∀ t, b.tk = some t → a.p < t.2.1 → r t.1 c.i → r a.i c.i
 tm : ∀ a ∈ I, ∀ t, a.tk = some t → a.p < t.2.1 ∧ t.2.1 ≤ t.2.2
 own : ∀ a ∈ I, ∀ t, a.tk = some t → t.1 ≠ a.i
 one : ∀ a ∈ I, ∀ b ∈ I, ∀ o, o ∈ a.ops → o ∈ b.ops → a = b
 key : ∀ a ∈ I, ∀ b ∈ I, a.k = b.k → a = b
def TopQ (I : List It) : Prop := ∀ a ∈ I, ∀ b ∈ I, ∀ t, a.tk = some t → b.p < t.2.1 → (∀ u, b.tk = some u → t.2.1 ≤ u.2.2) → a.k ≤ b.k
structure IsQt (l : List Dd) (a : It) : Prop where
 put : ∃ d, l[a.i]? = some d ∧ d.kd = 0 ∧ d.ok = true ∧ d.e = 1 ∧ d.x = a.x ∧ 0 ≤ d.till
 get : ∀ t, a.tk = some t → ∃ d, l[t.1]? = some d ∧ d.kd = 1 ∧ d.e = 0 ∧ (0 ≤ d.till → d.ok = true ∧ d.v = a.x)
section
variable {r : Nat → Nat → Prop} {I J : List It} {l : List Dd} {a x : It} {o : Nat}
theorem QRel.sub (h : QRel r I) (hs : ∀ a ∈ J, a ∈ I) : QRel r J :=
 ⟨fun a ha b hb => h.pp a (hs a ha) b (hs b hb), fun a ha b hb => h.pg a (hs a ha) b (hs b hb), fun a ha b hb => h.gp a (hs a ha) b (hs b hb), fun a ha b hb => h.gg a (hs a ha) b (hs b hb), fun a ha b hb c hc => h.thru a (hs a ha) b (hs b hb) c (hs c hc), fun a ha => h.tm a (hs a ha),
  fun a ha => h.own a (hs a ha), fun a ha b hb => h.one a (hs a ha) b (hs b hb), fun a ha b hb => h.key a (hs a ha) b (hs b hb)⟩
theorem TopQ.sub (h : TopQ I) (hs : ∀ a ∈ J, a ∈ I) : TopQ J := fun a ha b hb => h a (hs a ha) b (hs b hb)
theorem zBI : ∀ (O1 O2 : List Nat) (R R' : List Int), oRun l R O1 = some R' → oRun l R (O1 ++ O2) = oRun l R' O2
 | [], O2, R, R', hh => by cases hh; rfl
 | o :: O1, O2, R, R', hh => by
  rw [List.cons_append, oRun]
  rw [oRun] at hh
  cases hd : l[o]? with
  | none => rw [hd] at hh; cases hh
  | some d =>
   rw [hd] at hh
   have hh' : (dDo R (dAns R d)).bind (fun r => oRun l r O1) = some R' := hh
   show (dDo R (dAns R d)).bind (fun r => oRun l r (O1 ++ O2)) = _
   cases hq : dDo R (dAns R d) with
   | none => rw [hq] at hh'; cases hh'
   | some r =>
    rw [hq] at hh'
    exact zBI O1 O2 r R' hh'
theorem zDH (f : It → Nat) : ∀ I : List It, I ≠ [] → ∃ x ∈ I, ∀ y ∈ I, f x ≤ f y
 | [], h => absurd rfl h
 | [a], _ => ⟨a, List.mem_singleton.2 rfl, fun y hy => by rw [List.mem_singleton.1 hy]; exact Nat.le_refl _⟩
 | a :: b :: I, _ => by
  obtain ⟨x, hx, h⟩ := zDH f (b :: I) (by simp)
  by_cases hq : f a ≤ f x
  ·refine ⟨a, List.mem_cons_self, fun y hy => ?_⟩
   rcases List.mem_cons.1 hy with rfl | hy
   ·exact Nat.le_refl _
   ·exact Nat.le_trans hq (h y hy)
  ·refine ⟨x, List.mem_cons_of_mem _ hx, fun y hy => ?_⟩
   rcases List.mem_cons.1 hy with rfl | hy
   ·omega
   ·exact h y hy
theorem zDE (q : Nat → Prop) : ∀ O : List Nat, ∃ O1 O2, O = O1 ++ O2 ∧ (∀ o ∈ O1, ¬ q o) ∧ (O2 = [] ∨ ∃ o O3, O2 = o :: O3 ∧ q o)
 | [] => ⟨[], [], rfl, fun o h => (by cases h), .inl rfl⟩
 | o :: O => by
  by_cases hq : q o
  ·exact ⟨[], o :: O, rfl, fun o h => (by cases h), .inr ⟨o, O, rfl, hq⟩⟩
  ·obtain ⟨O1, O2, h1, h2, h3⟩ := zDE q O
   refine ⟨o :: O1, O2, by rw [h1]; rfl, fun o' h => ?_, h3⟩
   rcases List.mem_cons.1 h with rfl | h
   ·exact hq
   ·exact h2 o' h
theorem zC8 (hI : IsQt l a) (R : List Int) (O : List Nat) : oRun l R (a.i :: O) = oRun l (R ++ [a.x]) O := by
 obtain ⟨d, h1, h2, h3, h4, h5, h6⟩ := hI.put
 refine zAm h1 ?_
 unfold dAns
 rw [if_pos h6]
 unfold dDo
 rw [if_pos h2, if_pos h3, if_neg (by omega), h5]
theorem zHF (hI : IsQt l a) {t : Nat × Nat × Nat} (ht : a.tk = some t) (R : List Int) (O : List Nat) : oRun l (a.x :: R) (t.1 :: O) = oRun l R O := by
 obtain ⟨d, h1, h2, h3, h4⟩ := hI.get t ht
 have hne : a.x :: R ≠ [] := by simp
 refine zAm h1 ?_
 unfold dAns
 by_cases h6 : 0 ≤ d.till
 ·obtain ⟨q1, q2⟩ := h4 h6
  rw [if_pos h6]
  unfold dDo
  rw [if_neg (by omega), if_pos q1, if_neg hne, if_pos h3, if_pos (by rw [q2]; rfl)]
  rfl
 ·rw [if_neg h6, if_pos ⟨h2, hne⟩, if_neg (by omega)]
  unfold dDo
  rw [if_neg (by show ¬ d.kd = 0; omega), if_pos rfl, if_neg hne, if_pos (by exact h3), if_pos rfl]
  rfl
theorem zCK : ∀ O : List Nat, (∀ o ∈ O, ∃ a, o = a.i ∧ IsQt l a) → ∃ V, ∀ R, oRun l R O = some (R ++ V)
 | [], _ => ⟨[], fun R => by rw [oRun, List.append_nil]⟩
 | o :: O, h => by
  obtain ⟨a, rfl, ha⟩ := h o List.mem_cons_self
  obtain ⟨V, hV⟩ := zCK O (fun o ho => h o (List.mem_cons_of_mem _ ho))
  exact ⟨a.x :: V, fun R => by rw [zC8 ha, hV, List.append_assoc]; rfl⟩
def It.sees (a : It) : Nat := match a.tk with
 | none => 0
 | some t => t.2.1
theorem zBQ : ∀ (n : Nat) (I : List It), I.length ≤ n → QRel r I → TopQ I → (∀ a ∈ I, IsQt l a) → (∀ a ∈ I, ¬ r a.i a.i) → ∃ O F, Ordd r I O ∧ ((∀ a ∈ I, a.tk ≠ none) → F = []) ∧ oRun l [] O = some F
 | 0, I, hn, _, _, _, _ => by
  have : I = [] := List.eq_nil_of_length_eq_zero (by omega)
  subst this
  exact ⟨[], [], ⟨List.nodup_nil, fun o => by simp, .nil⟩, fun _ => rfl, rfl⟩
 | n + 1, I, hn, h, hT, hI, hr => by
  by_cases he : I = []
  ·subst he
   exact ⟨[], [], ⟨List.nodup_nil, fun o => by simp, .nil⟩, fun _ => rfl, rfl⟩
  have part : ∀ x ∈ I, (I.filter (fun y => decide (y.k ≠ x.k))).length ≤ n ∧ (∀ y, y ∈ I.filter (fun y => decide (y.k ≠ x.k)) ↔ y ∈ I ∧ y.k ≠ x.k) := fun x hx => by
   constructor
   ·have : (I.filter (fun y => decide (y.k ≠ x.k))).length < I.length := by
     rw [List.length_filter_lt_length_iff_exists]
     exact ⟨x, hx, by simp⟩
    omega
   ·intro y
    rw [List.mem_filter, decide_eq_true_eq]
  by_cases hnone : I.filter (fun y => y.tk.isSome) = []
  ·-- nothing is taken: in the order in which they came
   have hno : ∀ y ∈ I, y.tk = none := fun y hy => by
    cases hq : y.tk with
    | none => rfl
    | some t =>
     have : y ∈ I.filter (fun y => y.tk.isSome) := List.mem_filter.2 ⟨hy, by rw [hq]; rfl⟩
     rw [hnone] at this
     cases this
   obtain ⟨x, hx, hmin⟩ := zDH It.p I he
   obtain ⟨p1, p2⟩ := part x hx
   have hs : ∀ a ∈ I.filter (fun y => decide (y.k ≠ x.k)), a ∈ I := fun a ha => ((p2 a).1 ha).1
   obtain ⟨O, F, hO, _, hR⟩ := zBQ n _ p1 (h.sub hs) (hT.sub hs) (fun a ha => hI a (hs a ha)) (fun a ha => hr a (hs a ha))
   have hops : ∀ y ∈ I, ∀ o, o ∈ y.ops ↔ o = y.i := fun y hy o => by rw [It.ops_iff, hno y hy]; simp
   obtain ⟨V, hV⟩ := zCK (l := l) O (fun o ho => by
    obtain ⟨y, hy, ho'⟩ := (hO.mem _).1 ho
    exact ⟨y, (hops y (hs y hy) o).1 ho', hI y (hs y hy)⟩)
   refine ⟨x.i :: O, [x.x] ++ V, ⟨List.nodup_cons.2 ⟨fun hm => ?_, hO.nodup⟩, fun o => ?_, List.pairwise_cons.2 ⟨fun o ho hb => ?_, hO.ahead⟩⟩, fun hall => absurd (hno x hx) (hall x hx), ?_⟩
   ·obtain ⟨y, hy, ho⟩ := (hO.mem _).1 hm
    obtain ⟨y1, y2⟩ := (p2 y).1 hy
    exact y2 (by rw [h.one y y1 x hx _ ho ((hops x hx _).2 rfl)])
   ·rw [List.mem_cons, hO.mem]
    constructor
    ·rintro (rfl | ⟨y, hy, ho⟩)
     ·exact ⟨x, hx, (hops x hx _).2 rfl⟩
     ·exact ⟨y, hs y hy, ho⟩
    ·rintro ⟨y, hy, ho⟩
     by_cases hk : y.k = x.k
     ·rw [h.key y hy x hx hk] at ho
      exact .inl ((hops x hx _).1 ho)
     ·exact .inr ⟨y, (p2 y).2 ⟨hy, hk⟩, ho⟩
   ·obtain ⟨y, hy, ho'⟩ := (hO.mem _).1 ho
    have e := (hops y (hs y hy) o).1 ho'
    rw [e] at hb
    have := (h.pp y (hs y hy) x hx hb).2
    have := hmin y (hs y hy)
    omega
   ·rw [zC8 (hI x hx), hV]
    rfl
  ·-- who takes first
   obtain ⟨x, hxf, hminf⟩ := zDH It.sees _ hnone
   obtain ⟨hx, hxs⟩ := List.mem_filter.1 hxf
   obtain ⟨t, htk⟩ : ∃ t, x.tk = some t := by
    cases hq : x.tk with
    | none => rw [hq] at hxs; cases hxs
    | some t => exact ⟨t, rfl⟩
   have hmin : ∀ y ∈ I, ∀ u, y.tk = some u → t.2.1 ≤ u.2.1 := fun y hy u hu => by
    have := hminf y (List.mem_filter.2 ⟨hy, by rw [hu]; rfl⟩)
    unfold It.sees at this
    rw [htk, hu] at this
    exact this
   obtain ⟨t1, t2⟩ := h.tm x hx t htk
   have hmin' : ∀ y ∈ I, y.k ≠ x.k → ∀ u, y.tk = some u → t.2.1 < u.2.1 := fun y hy hk u hu => by
    have h1 := hmin y hy u hu
    obtain ⟨u1, u2⟩ := h.tm y hy u hu
    rcases Nat.lt_or_ge t.2.1 u.2.1 with h2 | h2
    ·exact h2
    ·exfalso
     have h3 := hT x hx y hy t htk (by omega) (fun u' hu' => by rw [hu] at hu'; cases hu'; omega)
     have h4 := hT y hy x hx u hu (by omega) (fun u' hu' => by rw [htk] at hu'; cases hu'; omega)
     omega
   obtain ⟨p1, p2⟩ := part x hx
   have hs : ∀ a ∈ I.filter (fun y => decide (y.k ≠ x.k)), a ∈ I := fun a ha => ((p2 a).1 ha).1
   obtain ⟨O, F, hO, hF, hR⟩ := zBQ n _ p1 (h.sub hs) (hT.sub hs) (fun a ha => hI a (hs a ha)) (fun a ha => hr a (hs a ha))
   have hxo : ∀ o, o ∈ x.ops ↔ o = x.i ∨ o = t.1 := fun o => by rw [It.ops_iff, htk]; simp
   have hne := h.own x hx t htk
   have inO : ∀ o, o ∈ O → ∃ y ∈ I, y.k ≠ x.k ∧ o ∈ y.ops ∧ o ∉ x.ops := fun o ho => by
    obtain ⟨y, hy, ho'⟩ := (hO.mem _).1 ho
    obtain ⟨y1, y2⟩ := (p2 y).1 hy
    exact ⟨y, y1, y2, ho', fun hh => y2 (by rw [h.one y y1 x hx o ho' hh])⟩
   have hfirst : ∀ o, o ∈ O → ¬ r o x.i := fun o ho hb => by
    obtain ⟨y, y1, y2, y3, _⟩ := inO o ho
    rcases It.ops_iff.1 y3 with rfl | ⟨u, hu, rfl⟩
    ·obtain ⟨k1, k2⟩ := h.pp y y1 x hx hb
     have := hT x hx y y1 t htk (by omega) (fun u hu => by
      have := hmin y y1 u hu
      have := h.tm y y1 u hu
      omega)
     omega
    ·have := (h.gp y y1 x hx u hu hb).1
     have := hmin y y1 u hu
     have := h.tm y y1 u hu
     omega
   obtain ⟨O1, O2, e1, e2, e3⟩ := zDE (fun o => r t.1 o) O
   have hahead := hO.ahead
   rw [e1, List.pairwise_append] at hahead
   obtain ⟨a1, a2, a3⟩ := hahead
   have hnod := hO.nodup
   rw [e1, List.nodup_append] at hnod
   obtain ⟨n1, n2, n3⟩ := hnod
   have m1 : ∀ o ∈ O1, o ∈ O := fun o ho => by rw [e1]; exact List.mem_append_left _ ho
   have m2 : ∀ o ∈ O2, o ∈ O := fun o ho => by rw [e1]; exact List.mem_append_right _ ho
   have behind : ∀ o ∈ O2, ¬ r o t.1 := fun o ho hb => by
    obtain ⟨y, y1, y2, y3, _⟩ := inO o (m2 o ho)
    rcases It.ops_iff.1 y3 with rfl | ⟨u, hu, rfl⟩
    ·have hp := (h.pg y y1 x hx t htk).1 hb
     rcases e3 with e3 | ⟨o', O3, e3, hq⟩
     ·rw [e3] at ho
      cases ho
     ·have ho' : o' ∈ O2 := by rw [e3]; exact List.mem_cons_self
      obtain ⟨z, z1, z2, z3, _⟩ := inO o' (m2 o' ho')
      rw [e3] at a2 ho
      rcases It.ops_iff.1 z3 with rfl | ⟨u, hu, rfl⟩
      ·rcases List.mem_cons.1 ho with e | ho
       ·have hyz := h.one y y1 z z1 y.i (It.ops_iff.2 (.inl rfl)) (It.ops_iff.2 (.inl e))
        rw [← hyz] at hq
        have := (h.gp x hx y y1 t htk hq).1
        omega
       ·exact (List.pairwise_cons.1 a2).1 _ ho (h.thru y y1 x hx z z1 t htk hp hq)
      ·have hc := hmin' z z1 z2 u hu
       rcases List.mem_cons.1 ho with e | ho
       ·have hyz := h.one y y1 z z1 y.i (It.ops_iff.2 (.inl rfl)) (It.ops_iff.2 (.inr ⟨u, hu, e⟩))
        rw [← hyz] at hu
        exact h.own y y1 u hu e.symm
       ·exact (List.pairwise_cons.1 a2).1 _ ho ((h.pg y y1 z z1 u hu).2 (by omega))
    ·have := (h.gg y y1 x hx u t hu htk).1 hb
     have := hmin y y1 u hu
     omega
   obtain ⟨V, hV⟩ := zCK (l := l) O1 (fun o ho => by
    obtain ⟨y, y1, y2, y3, _⟩ := inO o (m1 o ho)
    rcases It.ops_iff.1 y3 with rfl | ⟨u, hu, rfl⟩
    ·exact ⟨y, rfl, hI y y1⟩
    ·exact absurd ((h.gg x hx y y1 t u htk hu).2 (hmin' y y1 y2 u hu)) (e2 _ ho))
   refine ⟨x.i :: (O1 ++ t.1 :: O2), F, ⟨?_, fun o => ?_, ?_⟩, fun hall => hF (fun a ha => hall a (hs a ha)), ?_⟩
   ·refine List.nodup_cons.2 ⟨fun hm => ?_, List.nodup_append.2 ⟨n1, List.nodup_cons.2 ⟨fun hm => ?_, n2⟩, fun o ho o' ho' => ?_⟩⟩
    ·rcases List.mem_append.1 hm with hm | hm
     ·obtain ⟨_, _, _, _, y4⟩ := inO _ (m1 _ hm)
      exact y4 ((hxo _).2 (.inl rfl))
     ·rcases List.mem_cons.1 hm with hm | hm
      ·exact hne hm.symm
      ·obtain ⟨_, _, _, _, y4⟩ := inO _ (m2 _ hm)
       exact y4 ((hxo _).2 (.inl rfl))
    ·obtain ⟨_, _, _, _, y4⟩ := inO _ (m2 _ hm)
     exact y4 ((hxo _).2 (.inr rfl))
    ·rcases List.mem_cons.1 ho' with rfl | hm
     ·rintro rfl
      obtain ⟨_, _, _, _, y4⟩ := inO _ (m1 _ ho)
      exact y4 ((hxo _).2 (.inr rfl))
     ·exact n3 o ho o' hm
   ·rw [List.mem_cons, List.mem_append, List.mem_cons]
    constructor
    ·rintro (rfl | hm | rfl | hm)
     ·exact ⟨x, hx, (hxo _).2 (.inl rfl)⟩
     ·obtain ⟨y, y1, _, y3, _⟩ := inO _ (m1 _ hm)
      exact ⟨y, y1, y3⟩
     ·exact ⟨x, hx, (hxo _).2 (.inr rfl)⟩
     ·obtain ⟨y, y1, _, y3, _⟩ := inO _ (m2 _ hm)
      exact ⟨y, y1, y3⟩
    ·rintro ⟨y, hy, ho⟩
     by_cases hk : y.k = x.k
     ·rw [h.key y hy x hx hk] at ho
      rcases (hxo _).1 ho with e | e
      ·exact .inl e
      ·exact .inr (.inr (.inl e))
     ·have := (hO.mem o).2 ⟨y, (p2 y).2 ⟨hy, hk⟩, ho⟩
      rw [e1] at this
      rcases List.mem_append.1 this with hm | hm
      ·exact .inr (.inl hm)
      ·exact .inr (.inr (.inr hm))
   ·refine List.pairwise_cons.2 ⟨fun o ho => ?_, List.pairwise_append.2 ⟨a1, List.pairwise_cons.2 ⟨behind, a2⟩, fun o ho o' ho' => ?_⟩⟩
    ·rcases List.mem_append.1 ho with hm | hm
     ·exact hfirst o (m1 o hm)
     ·rcases List.mem_cons.1 hm with rfl | hm
      ·intro hb
       have := (h.gp x hx x hx t htk hb).1
       omega
      ·exact hfirst o (m2 o hm)
    ·rcases List.mem_cons.1 ho' with rfl | hm
     ·exact e2 o ho
     ·exact a3 o ho o' hm
   ·rw [e1, zBI O1 O2 [] _ (hV []), List.nil_append] at hR
    rw [zC8 (hI x hx), zBI O1 _ _ _ (hV _)]
    show oRun l (x.x :: V) (t.1 :: O2) = some F
    rw [zHF (hI x hx) htk]
    exact hR
end
end
section
open Go.RowKit
structure Em where
 i : Nat
 c : Nat
structure Ems (bef : Nat → Nat → Prop) (I : List It) (E : List Em) : Prop where
 pe : ∀ a ∈ I, ∀ e ∈ E, bef a.i e.i → a.p < e.c
 ge : ∀ a ∈ I, ∀ t, a.tk = some t → ∀ e ∈ E, bef t.1 e.i → t.2.2 < e.c
 ep : ∀ e ∈ E, ∀ a ∈ I, bef e.i a.i → e.c ≤ a.p
 eg : ∀ e ∈ E, ∀ a ∈ I, ∀ t, a.tk = some t → bef e.i t.1 → e.c < t.2.1
 ee : ∀ e ∈ E, ∀ f ∈ E, bef e.i f.i → e.c < f.c
 none : ∀ e ∈ E, ∀ a ∈ I, a.p < e.c → ∃ t, a.tk = some t ∧ t.2.2 < e.c
 new : ∀ e ∈ E, ∀ a ∈ I, e.i ∉ a.ops
structure Orde (bef : Nat → Nat → Prop) (l : List Dd) (M : Nat → Prop) (O : List Nat) : Prop where
 nodup : O.Nodup
 mem : ∀ o, o ∈ O ↔ M o
 ahead : O.Pairwise (fun a b => ¬ bef b a)
 run : ∃ F, oRun l [] O = some F
theorem zEl {α : Type} (f : α → Nat) : ∀ I : List α, I ≠ [] → ∃ x ∈ I, ∀ y ∈ I, f x ≤ f y
 | [], h => absurd rfl h
 | [a], _ => ⟨a, List.mem_singleton.2 rfl, fun y hy => by rw [List.mem_singleton.1 hy]; exact Nat.le_refl _⟩
 | a :: b :: I, _ => by
  obtain ⟨x, hx, h⟩ := zEl f (b :: I) (by simp)
  by_cases hq : f a ≤ f x
  ·refine ⟨a, List.mem_cons_self, fun y hy => ?_⟩
   rcases List.mem_cons.1 hy with rfl | hy
   ·exact Nat.le_refl _
   ·exact Nat.le_trans hq (h y hy)
  ·refine ⟨x, List.mem_cons_of_mem _ hx, fun y hy => ?_⟩
   rcases List.mem_cons.1 hy with rfl | hy
   ·omega
   ·exact h y hy
section
variable {bef : Nat → Nat → Prop} {I J : List It} {l : List Dd}
theorem Ems.sub {E E' : List Em} (h : Ems bef I E) (hs : ∀ a ∈ J, a ∈ I) (he : ∀ e ∈ E', e ∈ E) : Ems bef J E' :=
 ⟨fun a ha e h1 => h.pe a (hs a ha) e (he e h1), fun a ha t ht e h1 => h.ge a (hs a ha) t ht e (he e h1), fun e h1 a ha => h.ep e (he e h1) a (hs a ha), fun e h1 a ha => h.eg e (he e h1) a (hs a ha), fun e h1 f h2 => h.ee e (he e h1) f (he f h2),
  fun e h1 a ha => h.none e (he e h1) a (hs a ha), fun e h1 a ha => h.new e (he e h1) a (hs a ha)⟩
theorem zG9 {e : Nat} {d : Dd} (hd : l[e]? = some d) (hk : d.kd = 1) (ho : d.ok = false) (ht : 0 ≤ d.till) (O : List Nat) : oRun l [] (e :: O) = oRun l [] O := by
 refine zAm hd ?_
 unfold dAns
 rw [if_pos ht]
 unfold dDo
 rw [if_neg (by omega), if_neg (by rw [ho]; decide), if_pos rfl]
theorem zCG : ∀ (n : Nat) (E : List Em) (I : List It), E.length ≤ n → Its bef I → Ems bef I E → (∀ e ∈ E, ∃ d, l[e.i]? = some d ∧ d.kd = 1 ∧ d.ok = false ∧ 0 ≤ d.till) →
  (∀ J : List It, (∀ a ∈ J, a ∈ I) → ∃ O F, Ordd bef J O ∧ ((∀ a ∈ J, a.tk ≠ none) → F = []) ∧ oRun l [] O = some F) →
  ∃ O, Orde bef l (fun o => (∃ a ∈ I, o ∈ a.ops) ∨ ∃ e ∈ E, o = e.i) O
 | n, [], I, _, _, _, _, hord => by
  obtain ⟨O, F, hO, _, hR⟩ := hord I (fun _ h => h)
  refine ⟨O, hO.nodup, fun o => ?_, hO.ahead, F, hR⟩
  rw [hO.mem]
  simp
 | 0, _ :: _, _, hn, _, _, _, _ => by simp at hn
 | n + 1, e0 :: E0, I, hn, h, hE, hd, hord => by
  obtain ⟨e, he, hmin⟩ := zEl Em.c (e0 :: E0) (by simp)
  generalize e0 :: E0 = E at hn hE hd he hmin
  have hlen : (E.filter (fun f => decide (f.i ≠ e.i))).length ≤ n := by
   have : (E.filter (fun f => decide (f.i ≠ e.i))).length < E.length := by
    rw [List.length_filter_lt_length_iff_exists]
    exact ⟨e, he, by simp⟩
   omega
  have hEs : ∀ f, f ∈ E.filter (fun f => decide (f.i ≠ e.i)) ↔ f ∈ E ∧ f.i ≠ e.i := fun f => by rw [List.mem_filter, decide_eq_true_eq]
  have hA : ∀ y, y ∈ I.filter (fun y => y.early e.c) ↔ y ∈ I ∧ y.early e.c = true := fun y => List.mem_filter
  have hB : ∀ y, y ∈ I.filter (fun y => !y.early e.c) ↔ y ∈ I ∧ y.early e.c = false := fun y => by
   rw [List.mem_filter]
   cases y.early e.c <;> simp
  have hBp : ∀ y ∈ I, y.early e.c = false → e.c ≤ y.p := fun y hy hq => Nat.le_of_not_lt fun hlt => by
   obtain ⟨t, ht, ht2⟩ := hE.none e he y hy hlt
   rw [It.early_yes.2 ⟨t, ht, ht2⟩] at hq
   cases hq
  obtain ⟨OA, FA, hOA, hFA, hRA⟩ := hord (I.filter (fun y => y.early e.c)) (fun a ha => ((hA a).1 ha).1)
  have hFA0 : FA = [] := hFA (fun a ha hn => by
   obtain ⟨u, hu, _⟩ := It.early_yes.1 ((hA a).1 ha).2
   rw [hn] at hu
   cases hu)
  have hsB : ∀ a ∈ I.filter (fun y => !y.early e.c), a ∈ I := fun a ha => ((hB a).1 ha).1
  obtain ⟨O, hO⟩ := zCG n (E.filter (fun f => decide (f.i ≠ e.i))) (I.filter (fun y => !y.early e.c)) hlen (h.sub hsB) (hE.sub hsB (fun f hf => ((hEs f).1 hf).1)) (fun f hf => hd f ((hEs f).1 hf).1) (fun J hJ => hord J (fun a ha => hsB a (hJ a ha)))
  obtain ⟨F, hF⟩ := hO.run
  obtain ⟨d, d1, d2, d3, d4⟩ := hd e he
  have inA : ∀ o, o ∈ OA → ∃ y ∈ I, (∃ u, y.tk = some u ∧ u.2.2 < e.c) ∧ y.early e.c = true ∧ o ∈ y.ops := fun o ho => by
   obtain ⟨y, hy, ho'⟩ := (hOA.mem _).1 ho
   obtain ⟨y1, y2⟩ := (hA y).1 hy
   exact ⟨y, y1, It.early_yes.1 y2, y2, ho'⟩
  have inO : ∀ o, o ∈ O → (∃ y ∈ I, y.early e.c = false ∧ o ∈ y.ops) ∨ ∃ f ∈ E, f.i ≠ e.i ∧ o = f.i := fun o ho => by
   rcases (hO.mem _).1 ho with ⟨y, hy, ho'⟩ | ⟨f, hf, ho'⟩
   ·obtain ⟨y1, y2⟩ := (hB y).1 hy
    exact .inl ⟨y, y1, y2, ho'⟩
   ·obtain ⟨f1, f2⟩ := (hEs f).1 hf
    exact .inr ⟨f, f1, f2, ho'⟩
  refine ⟨OA ++ e.i :: O, ?_, fun o => ?_, ?_, F, ?_⟩
  ·refine List.nodup_append.2 ⟨hOA.nodup, List.nodup_cons.2 ⟨fun hm => ?_, hO.nodup⟩, fun o ho o' ho' => ?_⟩
   ·rcases inO _ hm with ⟨y, y1, _, y3⟩ | ⟨f, _, f2, f3⟩
    ·exact hE.new e he y y1 y3
    ·exact f2 f3.symm
   ·rintro rfl
    obtain ⟨y, y1, _, y2, y3⟩ := inA _ ho
    rcases List.mem_cons.1 ho' with rfl | hm
    ·exact hE.new e he y y1 y3
    ·rcases inO _ hm with ⟨z, z1, z2, z3⟩ | ⟨f, f1, _, rfl⟩
     ·rw [h.one y y1 z z1 _ y3 z3, z2] at y2
      cases y2
     ·exact hE.new f f1 y y1 y3
  ·rw [List.mem_append, List.mem_cons]
   constructor
   ·rintro (hm | rfl | hm)
    ·obtain ⟨y, y1, _, _, y3⟩ := inA _ hm
     exact .inl ⟨y, y1, y3⟩
    ·exact .inr ⟨e, he, rfl⟩
    ·rcases inO _ hm with ⟨z, z1, _, z3⟩ | ⟨f, f1, _, f3⟩
     ·exact .inl ⟨z, z1, z3⟩
     ·exact .inr ⟨f, f1, f3⟩
   ·rintro (⟨y, hy, ho⟩ | ⟨f, hf, rfl⟩)
    ·cases hq : y.early e.c with
     | true => exact .inl ((hOA.mem _).2 ⟨y, (hA y).2 ⟨hy, hq⟩, ho⟩)
     | false => exact .inr (.inr ((hO.mem _).2 (.inl ⟨y, (hB y).2 ⟨hy, hq⟩, ho⟩)))
    ·by_cases hfe : f.i = e.i
     ·exact .inr (.inl hfe)
     ·exact .inr (.inr ((hO.mem _).2 (.inr ⟨f, (hEs f).2 ⟨hf, hfe⟩, rfl⟩)))
  ·refine List.pairwise_append.2 ⟨hOA.ahead, List.pairwise_cons.2 ⟨fun o ho hb => ?_, hO.ahead⟩, fun o ho o' ho' hb => ?_⟩
   ·rcases inO _ ho with ⟨z, z1, z2, z3⟩ | ⟨f, f1, _, rfl⟩
    ·have hp := hBp z z1 z2
     rcases It.ops_iff.1 z3 with rfl | ⟨t, ht, rfl⟩
     ·have := hE.pe z z1 e he hb
      omega
     ·have := hE.ge z z1 t ht e he hb
      have := h.tm z z1 t ht
      omega
    ·have := hE.ee f f1 e he hb
     have := hmin f f1
     omega
   ·obtain ⟨y, y1, ⟨u, y2, y4⟩, _, y3⟩ := inA _ ho
    have htm := h.tm y y1 u y2
    have key : ∀ f ∈ E, ¬ bef f.i o := fun f hf hb => by
     have := hmin f hf
     rcases It.ops_iff.1 y3 with rfl | ⟨t, ht, rfl⟩
     ·have := hE.ep f hf y y1 hb
      omega
     ·rw [y2] at ht
      cases ht
      have := hE.eg f hf y y1 u y2 hb
      omega
    rcases List.mem_cons.1 ho' with rfl | hm
    ·exact key e he hb
    ·rcases inO _ hm with ⟨z, z1, z2, z3⟩ | ⟨f, f1, _, rfl⟩
     ·exact h.begun y1 z1 ⟨u, y2, y4⟩ (hBp z z1 z2) o o' y3 z3 hb
     ·exact key f f1 hb
  ·rw [zBI OA _ _ _ hRA, hFA0, zG9 d1 d2 d3 d4]
   exact hF
theorem Orde.one {M : Nat → Prop} {O : List Nat} (h : Orde bef l M O) (htr : ∀ a b c, bef a b → bef b c → bef a c) (hirr : ∀ a, ¬ bef a a) {n : Nat} (hn : ¬ M n) (hq : ∀ R O, oRun l R (n :: O) = oRun l R O) : ∃ O', Orde bef l (fun o => M o ∨ o = n) O' := by
 obtain ⟨O1, O2, e1, e2, e3⟩ := zDE (fun o => bef n o) O
 have hahead := h.ahead
 rw [e1, List.pairwise_append] at hahead
 obtain ⟨a1, a2, a3⟩ := hahead
 have hnod := h.nodup
 rw [e1, List.nodup_append] at hnod
 obtain ⟨n1, n2, n3⟩ := hnod
 have hno : n ∉ O := fun hm => hn ((h.mem n).1 hm)
 rw [e1, List.mem_append, not_or] at hno
 refine ⟨O1 ++ n :: O2, List.nodup_append.2 ⟨n1, List.nodup_cons.2 ⟨hno.2, n2⟩, fun o ho o' ho' => ?_⟩, fun o => ?_, List.pairwise_append.2 ⟨a1, List.pairwise_cons.2 ⟨fun o ho hb => ?_, a2⟩, fun o ho o' ho' => ?_⟩, ?_⟩
 ·rcases List.mem_cons.1 ho' with rfl | hm
  ·rintro rfl
   exact hno.1 ho
  ·exact n3 o ho o' hm
 ·rw [← h.mem, e1, List.mem_append, List.mem_append, List.mem_cons]
  constructor
  ·rintro (h | h | h)
   ·exact .inl (.inl h)
   ·exact .inr h
   ·exact .inl (.inr h)
  ·rintro ((h | h) | h)
   ·exact .inl h
   ·exact .inr (.inr h)
   ·exact .inr (.inl h)
 ·rcases e3 with e3 | ⟨o', O3, e3, hq'⟩
  ·rw [e3] at ho
   cases ho
  ·rw [e3] at a2 ho
   rcases List.mem_cons.1 ho with e | ho
   ·rw [e] at hb
    exact hirr _ (htr _ _ _ hb hq')
   ·exact (List.pairwise_cons.1 a2).1 _ ho (htr _ _ _ hb hq')
 ·rcases List.mem_cons.1 ho' with rfl | hm
  ·exact e2 o ho
  ·exact a3 o ho o' hm
 ·obtain ⟨F, hF⟩ := h.run
  rw [e1] at hF
  have : ∃ R, oRun l [] O1 = some R := by
   clear a1 a2 a3 n1 n2 n3 hno e1 e2 e3
   generalize ([] : List Int) = R0 at hF
   induction O1 generalizing R0 with
   | nil => exact ⟨R0, rfl⟩
   | cons o O1 ih =>
    rw [List.cons_append, oRun] at hF
    rw [oRun]
    cases hd : l[o]? with
    | none => rw [hd] at hF; cases hF
    | some d =>
     rw [hd] at hF
     have hF' : (dDo R0 (dAns R0 d)).bind (fun r => oRun l r (O1 ++ O2)) = some F := hF
     show ∃ R, (dDo R0 (dAns R0 d)).bind (fun r => oRun l r O1) = some R
     cases hx : dDo R0 (dAns R0 d) with
     | none => rw [hx] at hF'; cases hF'
     | some r =>
      rw [hx] at hF'
      exact ih r hF'
  obtain ⟨R, hR⟩ := this
  rw [zBI O1 O2 _ _ hR] at hF
  exact ⟨F, by rw [zBI O1 _ _ _ hR, hq]; exact hF⟩
theorem Orde.more (htr : ∀ a b c, bef a b → bef b c → bef a c) (hirr : ∀ a, ¬ bef a a) : ∀ (S : List Nat) {M : Nat → Prop} {O : List Nat}, Orde bef l M O → (∀ n ∈ S, ∀ R O, oRun l R (n :: O) = oRun l R O) → ∃ O', Orde bef l (fun o => M o ∨ o ∈ S) O'
 | [], M, O, h, _ => ⟨O, h.nodup, fun o => by rw [h.mem]; simp, h.ahead, h.run⟩
 | n :: S, M, O, h, hq => by
  obtain ⟨O', h'⟩ := Orde.more htr hirr S h (fun n hn => hq n (List.mem_cons_of_mem _ hn))
  by_cases hm : M n ∨ n ∈ S
  ·refine ⟨O', h'.nodup, fun o => ?_, h'.ahead, h'.run⟩
   rw [h'.mem, List.mem_cons]
   constructor
   ·rintro (h | h)
    ·exact .inl h
    ·exact .inr (.inr h)
   ·rintro (h | rfl | h)
    ·exact .inl h
    ·exact hm
    ·exact .inr h
  ·obtain ⟨O2, h2⟩ := h'.one htr hirr hm (hq n List.mem_cons_self)
   refine ⟨O2, h2.nodup, fun o => ?_, h2.ahead, h2.run⟩
   rw [h2.mem, List.mem_cons]
   constructor
   ·rintro ((h | h) | h)
    ·exact .inl h
    ·exact .inr (.inr h)
    ·exact .inr (.inl h)
   ·rintro (h | h | h)
    ·exact .inl (.inl h)
    ·exact .inr h
    ·exact .inl (.inr h)
def befL (l : List Dd) (i k : Nat) : Prop := ∃ d o, l[i]? = some d ∧ l[k]? = some o ∧ dBef d o
theorem zFI (h : ∀ (i : Nat) (d : Dd), l[i]? = some d → 0 ≤ d.till → d.fr ≤ d.till) (a b c : Nat) (h1 : befL l a b) (h2 : befL l b c) : befL l a c := by
 obtain ⟨d, o, p1, p2, p3, p4⟩ := h1
 obtain ⟨o', u, q1, q2, q3, q4⟩ := h2
 rw [p2] at q1
 cases q1
 have := h b o p2 q3
 exact ⟨d, u, p1, q2, p3, by omega⟩
theorem zDK (h : ∀ (i : Nat) (d : Dd), l[i]? = some d → 0 ≤ d.till → d.fr ≤ d.till) (a : Nat) : ¬ befL l a a := by
 rintro ⟨d, o, p1, p2, p3, p4⟩
 rw [p1] at p2
 cases p2
 have := h a d p1 p3
 omega
theorem Orde.holds {M : Nat → Prop} {O : List Nat} (h : Orde (befL l) l M O) (hf : ∀ (i : Nat) (d : Dd), l[i]? = some d → 0 ≤ d.till → d.fr ≤ d.till) (hall : ∀ (i : Nat) (d : Dd), l[i]? = some d → 0 ≤ d.till → M i) : Holds l (fun _ => False) [] O := by
 refine ⟨h.nodup, fun _ _ hh => hh, fun i d hd ht => .inr ((h.mem i).2 (hall i d hd ht)), fun p i k d o hp hd ho hb => .inr ?_, h.run⟩
 obtain ⟨q, hq, hq2⟩ := List.getElem_of_mem ((h.mem k).2 (hall k o ho hb.1))
 have hp' := List.getElem?_eq_some_iff.1 hp
 obtain ⟨hpl, hp2⟩ := hp'
 refine ⟨q, ?_, by rw [List.getElem?_eq_getElem hq, hq2]⟩
 rcases Nat.lt_trichotomy q p with h1 | h1 | h1
 ·exact h1
 ·subst h1
  rw [hq2] at hp2
  subst hp2
  exact absurd ⟨o, d, ho, hd, hb⟩ (zDK hf k)
 ·have := List.pairwise_iff_getElem.1 h.ahead p q hpl hq h1
  rw [hp2, hq2] at this
  exact absurd ⟨o, d, ho, hd, hb⟩ this
end
end
end Go.Proofs.YtebgjfhaolgcjaaGreat
