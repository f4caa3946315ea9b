/-
  The contracts of package play: a move that is done, and a script. No condition but that values are numbers of 64 bits, and that there are less than a million moves.
-/
import Derived.Test.YtpfjommkjkbonaaGreatYardLoop
import Derived.Test.YtpfjommkjkbonaaGreatPlayPure
import Derived.Test.YtpfjommkjkbonaaGreatCodeDec
namespace Go.Proofs.YtpfjommkjkbonaaGreat
open Go.RowKit
set_option linter.unusedVariables false

set_option maxHeartbeats 4000000 in
theorem pdo_any {W w : World} {l : List Thing} {B : YB} {Y : Yd} {J : Nat → Nat} {n N : Nat} (h : YdL W w l B N Y J n) (hn : n < 1000000) (m : CM) (hf : m.Fit) :
    Calls Tryz.prog 27 #[pt B.yb, m.val] w fun r w' => ∃ a l' J' Y', r = .returned (i64 a) ∧ PDo B N m Y Y' a ∧ YdL W w' l' B N Y' J' (n + 1) ∧ YGo Y Y' l l' J J' := by
  obtain ⟨k, who, ck, ce, x, s, mn⟩ := m
  have HY := Lib.hid (h.later (below_new (Below.refl w.heap.size w) ((⟨k, who, ck, ce, x, s, mn⟩ : CM).obj 39)))
  have HO := Lib.hid (IsObj.made w [.int .i64 k, .int .i64 who, .int .i64 ck, .int .i64 ce, .int .u64 x, .int .i64 s, .int .i64 mn] 39)
  have HF := Lib.hid (show 0 ≤ x ∧ x ≤ 18446744073709551615 from hf)
  have HT := Lib.hid h.hT
  clear h hf
  unfold CM.val
  simp only
  rcases (by omega : k = 0 ∨ k = 1 ∨ k = 2 ∨ (k ≠ 0 ∧ k ≠ 1 ∧ k ≠ 2)) with rfl | rfl | rfl | ⟨h0, h1, h2⟩
  · by_cases hw : who < 0 ∨ B.t ≤ who
    · obtain ⟨v, vd, X, hA⟩ := HY.out.h
      have HA := Lib.hid hA
      have HW := Lib.hid hw
      clear hA hw
      go_enter Tryz.func27, Tryz.ntmps27
      go_wp2_with fail
      refine (ycall_out HA.out who HW.out ck ce x s).mono ?_
      rintro r w' ⟨rfl, hb⟩
      have HZ := Lib.hid (HY.out.later hb)
      clear hb HA HY HO
      go_wp2
      go_ret
      exact ⟨1, l, J, Y, rfl, .out rfl (HW.out.elim .inl (fun h => .inr (.inl h))), HZ.out.next hn .rest HZ.out.h, YGo.refl _ _ _⟩
    · obtain ⟨q, rfl⟩ : ∃ q : Nat, who = q := ⟨who.toNat, by omega⟩
      have hqT : q < B.T := by have := HT.out; omega
      by_cases ha : (ck = 0 ∨ ck = 1) ∧ (ce = 0 ∨ ce = 1)
      · obtain ⟨take, hk⟩ : ∃ take : Bool, kdI take = ck := by
          rcases ha.1 with h | h
          · exact ⟨false, h.symm⟩
          · exact ⟨true, h.symm⟩
        have HK := Lib.hid hk
        have HAs := Lib.hid ha
        clear hk ha hw
        go_enter Tryz.func27, Tryz.ntmps27
        go_wp2_with fail
        refine (HY.out.call hn q hqT take HK.out ce x s HAs.out.2 HF.out.1 HF.out.2).mono ?_
        rintro r w' ⟨l', J', Y', hd, hg, h3⟩
        have HD := Lib.hid hd
        have HG := Lib.hid hg
        clear hd hg HY HO
        rcases h3 with ⟨rfl, rfl, a, hq⟩ | ⟨rfl, hq, rfl⟩
        · have HQ := Lib.hid hq
          clear hq
          go_wp2
          go_ret
          exact ⟨2, l', J', _, rfl, .busy q a rfl rfl HAs.out HQ.out, HD.out, HG.out⟩
        · have HQ := Lib.hid hq
          clear hq
          go_wp2
          go_ret
          exact ⟨0, l', J', _, rfl, .call q take rfl rfl HK.out HAs.out.2 HQ.out, HD.out, HG.out⟩
      · obtain ⟨v, vd, X, hA⟩ := HY.out.h
        have HA := Lib.hid hA
        have HAs := Lib.hid ha
        clear hA ha hw
        go_enter Tryz.func27, Tryz.ntmps27
        go_wp2_with fail
        refine (ycall_wrong HA.out q hqT ck ce x s HAs.out).mono ?_
        rintro r w' ⟨rfl, hb⟩
        have HZ := Lib.hid (HY.out.later hb)
        clear hb HA HY HO
        go_wp2
        go_ret
        exact ⟨1, l, J, Y, rfl, .out rfl (.inr (.inr HAs.out)), HZ.out.next hn .rest HZ.out.h, YGo.refl _ _ _⟩
  · skip
    go_enter Tryz.func27, Tryz.ntmps27
    go_wp2_with fail
    refine (ystep_who HY.out.cf HY.out.h HY.out.ok hn who).mono ?_
    rintro r w1 ⟨b, l', J', Y', rfl, hl', hg, h3⟩
    have HL := Lib.hid hl'
    have HG := Lib.hid hg
    have H3 := Lib.hid h3
    clear hl' hg h3 HO
    cases b with
    | false =>
      go_wp2
      go_ret
      rcases H3.out with ⟨_, h4, h5⟩ | ⟨h4, _⟩
      · have hL := HL.out
        have hG := HG.out
        rw [h4] at hL hG
        exact ⟨5, l', J', Y, rfl, .none rfl h5, HY.out.next hn .rest hL, hG⟩
      · cases h4
    | true =>
      go_wp2
      go_ret
      rcases H3.out with ⟨h4, _⟩ | ⟨_, k, T, i, z, h5, h6, h7, h8⟩
      · cases h4
      · have hL := HL.out
        have hG := HG.out
        rw [h8] at hL hG
        exact ⟨0, l', J', _, rfl, .step k T i z rfl h5.symm h6 h7, HY.out.next hn (.step k T i z h6 h7) hL, hG⟩
  · have n0 := HY.out.ok.now0
    have n1 := HY.out.ok.now1
    obtain ⟨v, vd, X, hA⟩ := HY.out.h
    have HA := Lib.hid hA
    clear hA
    rcases (by omega : mn ≤ 0 ∨ 0 < mn) with hm0 | hm0
    · skip
      go_enter Tryz.func27, Tryz.ntmps27
      go_wp2_with fail
      refine (ypass_rest HA.out mn hm0).mono ?_
      rintro r w1 ⟨rfl, rfl⟩
      clear HA HO
      go_wp2
      go_ret
      exact ⟨0, l, J, Y, rfl, .still rfl (by show ¬ 0 < mn; omega), HY.out.next hn .rest HY.out.h, YGo.refl _ _ _⟩
    · skip
      go_enter Tryz.func27, Tryz.ntmps27
      go_wp2_with fail
      refine (ypass_any HA.out mn hm0 n0 n1).mono ?_
      rintro r w1 ⟨rfl, l', hl', hle, hke⟩
      have HL := Lib.hid hl'
      have HG : Hid (YGo Y (Y.pass mn) l l' J J) := Lib.hid (pass_go hle hke)
      clear hl' hle hke HA HO
      go_wp2
      go_ret
      exact ⟨0, l', J, _, rfl, .pass rfl hm0, HY.out.next hn (.pass mn hm0) ⟨_, _, _, HL.out⟩, HG.out⟩
  · have e0 : (k == 0) = false := beq_false_of_ne h0
    have e1 : (k == 1) = false := beq_false_of_ne h1
    have e2 : (k == 2) = false := beq_false_of_ne h2
    have H0 := Lib.hid (And.intro h0 (And.intro h1 h2))
    clear h0 h1 h2 HO
    go_enter Tryz.func27, Tryz.ntmps27
    go_wp2_with fail
    go_ret
    exact ⟨1, l, J, Y, rfl, .other H0.out.1 H0.out.2.1 H0.out.2.2, HY.out.next hn .rest HY.out.h, YGo.refl _ _ _⟩

section
variable {W w w' : World} {l l' : List Thing} {B : YB} {Y Y' : Yd} {J J' : Nat → Nat} {n n' N : Nat}
theorem YdL.turnRow (h : YdL W w l B N Y J n) {j : Nat} {A A' : Thing} (hr : Rest Y l J j A) (hl : Hold W w' (l.set j A')) : YdL W w' (l.set j A') B N Y J n ∧ Rest Y (l.set j A') J j A' :=
  ⟨⟨h.h.other hl (fun i C hi hf => by rw [List.getElem?_set_ne (fun e => by subst e; exact hf hr.free)]; exact hi), h.ok, h.len, h.cf, h.hT⟩, List.getElem?_set_self (List.getElem?_eq_some_iff.1 hr.at').1, hr.free⟩
end
theorem IsObj.rowOf {w : World} {base g n : Nat} {e : TypeId} {xs : List Value} (h : w.ownsRow base e 1 (.slice (some ⟨g, 0, none⟩) n n) n xs) (hl : xs.length = n) : IsObj w g xs :=
  ⟨fun j x hj => by rw [h.cellAt j (by have := (List.getElem?_eq_some_iff.1 hj).1; omega)]; exact hj, fun o => h.frozenAt o, (h.lt g rfl).2⟩
theorem elem_errno : ElemAt Tryz.prog 42 43 (.int .i64 0) 1 8 := ElemAt.mk' Tryz.underlying42 (by kernel_rfl) rfl (by decide)
theorem made_errno (n : Nat) : (madeCells (Value.int .i64 0).cells (n * 1)).toList = List.replicate n (Value.int .i64 0) := by
  rw [Nat.mul_one]
  exact toList_madeCells_one (.int .i64 0) n
/-- How moves were answered, and room for the rest. -/
def ansL (A : List Int) (n : Nat) : List Value := A.map (fun a => .int .i64 a) ++ List.replicate (n - A.length) (.int .i64 0)
theorem ansL_set (A : List Int) (n : Nat) (a : Int) (h : A.length < n) : (ansL A n).set A.length (.int .i64 a) = ansL (A ++ [a]) n := by
  unfold ansL
  rw [List.set_append_right _ _ (by rw [List.length_map]; exact Nat.le_refl _), List.length_map, Nat.sub_self, List.map_append, List.append_assoc, List.length_append, List.length_singleton, show n - A.length = (n - (A.length + 1)) + 1 by omega, List.replicate_succ]
  rfl
theorem ansL_full (A : List Int) : ansL A A.length = A.map (fun a => .int .i64 a) := by
  unfold ansL
  rw [Nat.sub_self]
  exact List.append_nil _
/-- A yard that did a script, and how its moves were answered. -/
structure PRn (W w : World) (l : List Thing) (B : YB) (N : Nat) (S : List CM) (Yf : Nat → Yd) (A : List Int) (J : Nat → Nat) (g : Nat) : Prop where
  yd : YdL W w l B N (Yf S.length) J S.length
  tr : PTr B N S Yf A
  row : Rest (Yf S.length) l J 4 (tObj W.heap.size g (A.map (fun a => .int .i64 a)))
theorem YTr.fit_last {B : YB} {N : Nat} {S : List CM} {W w : World} {l : List Thing} {Y : Yd} {J : Nat → Nat} {n : Nat} (h : YdL W w l B N Y J n) : ∀ j, 0 ≤ Y.C.getD j 0 ∧ Y.C.getD j 0 ≤ 18446744073709551615 := h.h.fit
theorem rightC_lay {t s so d : Int} (h : rightC t s so d = true) : ∃ T N : Nat, t = T ∧ Lay T s N ∧ 0 ≤ so ∧ so ≤ 4 ∧ 0 ≤ d ∧ d ≤ 100 := by
  obtain ⟨h1, h2, h3, h4, h5, h6, h7, h8⟩ := of_decide_eq_true h
  have hl := Lay.mk' h1 h2 h3 h4
  obtain ⟨T, rfl⟩ : ∃ T : Nat, t = T := ⟨t.toNat, by omega⟩
  obtain ⟨N, hN⟩ : ∃ N : Nat, (T : Int) * s = N := ⟨((T : Int) * s).toNat, by have := hl.n1; omega⟩
  rw [hN] at hl
  exact ⟨T, N, rfl, hl, h5, h6, h7, h8⟩
theorem take_snoc {S : List CM} {i : Nat} {m : CM} (h : S[i]? = some m) : S.take (i + 1) = S.take i ++ [m] := by rw [List.take_add_one, h]; rfl

set_option maxRecDepth 100000 in
set_option maxHeartbeats 8000000 in
theorem prun_any (T : Nat) (s so d : Int) (N : Nat) (A : Option Addr) (cap : Nat) (S : List CM) (w : World) (hS : IsAt w A (flatM S)) (hf : ∀ m ∈ S, m.Fit) (hn : S.length < 900000) (hl : Lay T s N) (o0 : 0 ≤ so) (o1 : so ≤ 4) (d0 : 0 ≤ d) (d1 : d ≤ 100) :
    Calls Tryz.prog 13 #[scV T s so d (.slice A S.length cap)] w fun r w' => ∃ W l yb ytb p c Yf An J g, r = .returned (.tuple #[pt yb, .slice (some ⟨g, 0, none⟩) S.length S.length, i64 0]) ∧ Below w.heap.size w W ∧ PRn W w' l ⟨yb, ytb, p, c, T, s, so, d, T⟩ N S Yf An J g := by
  have hB0 := below_new (Below.refl w.heap.size w) (.cells #[.int .i64 T, .int .i64 s, .int .i64 so, .int .i64 d, .slice A S.length cap] 29)
  have HS := Lib.hid (hS.later hB0)
  have HSO := Lib.hid (IsObj.made w [.int .i64 T, .int .i64 s, .int .i64 so, .int .i64 d, .slice A S.length cap] 29)
  have HB := Lib.hid hB0
  have HF := Lib.hid hf
  have HLAY := Lib.hid hl
  obtain ⟨n, hne⟩ : ∃ n, S.length = n := ⟨_, rfl⟩
  rw [hne] at hn HSO HB HS ⊢
  have HN := Lib.hid hne
  clear hS hf hl hB0 hne
  unfold scV
  go_enter Tryz.func13, Tryz.ntmps13
  go_wp2_with fail
  generalize w.alloc (.cells #[.int .i64 T, .int .i64 s, .int .i64 so, .int .i64 d, .slice A n cap] 29) = W at HS HSO HB ⊢
  refine (ynew_yes (W := W) T s so d N (Below.refl _ _) HLAY.out o0 o1 d0 d1).mono ?_
  rintro r w3 ⟨yb, ytb, p, c, l0, rfl, hl4, hY, hb, hyb⟩
  have HD0 := Lib.hid (YdL.start HLAY.out o0 o1 d0 d1 hY)
  have HL4 := Lib.hid hl4
  clear hY hb hyb hl4
  have q4 := (HSO.out.later HD0.out.h.below).at' 4 _ rfl
  obtain ⟨im, hm1, hm2, hm3, hm4⟩ := elem_errno.info
  go_wp2_with (at_make; refine wpList_make_full _ rfl _ _ 42 rfl W.heap.size 43 im (.int .i64 0) 1 elem_errno.und hm1 hm2 hm3 .i64 .i64 _ _ n rfl rfl rfl rfl (by rw [hm4]; omega) (by unfold maxLen; omega) HD0.out.h.size ?_; intro w4 hown hg; rw [made_errno] at hown; have hown2 : w4.ownsRow W.heap.size 43 1 (.slice (some ⟨w3.heap.size, 0, none⟩) n n) n (ansL [] n) := hown; have HD1 := Lib.hid (HD0.out.more (A := tObj W.heap.size w3.heap.size (ansL [] n)) ((Below.refl _ _).grown hg (Nat.le_refl _) (fun k hk => by cases hk)) (tObj_ok W.heap.size _ _) ⟨IsObj.rowOf hown2 (by unfold ansL; simp), HD0.out.h.size⟩ (fun q hq => by cases hq; exact Nat.le_refl _)); have R4 := Lib.hid (HD0.out.rest (tObj W.heap.size w3.heap.size (ansL [] n))); clear hown hown2 hg q4; have q4 := (HSO.out.later HD1.out.h.below).at' 4 _ rfl)
  clear im hm1 hm2 hm3 hm4 HD0
  generalize w3.heap.size = g at HD1 R4 ⊢
  have HR0 : Hid (Rest (yd0 N T) (l0 ++ [tObj W.heap.size g (ansL [] n)]) (fun _ => 0) 4 (tObj W.heap.size g (ansL [] n))) := Lib.hid (by have h := R4.out; rw [HL4.out] at h; exact h)
  have HP0 : Hid (PTr ⟨yb, ytb, p, c, T, s, so, d, T⟩ N (S.take 0) (fun _ => yd0 N T) []) := Lib.hid (PTr.start ⟨HLAY.out, o0, o1, d0, d1⟩ rfl)
  clear R4 HL4
  go_loopw [26] (fun ix wr => ∃ (i : Nat) (l : List Thing) (Y : Nat → Yd) (J : Nat → Nat) (An : List Int), i ≤ n ∧ ix = .int .i64 i ∧ Hid (YdL W wr l ⟨yb, ytb, p, c, T, s, so, d, T⟩ N (Y i) J i) ∧ Hid (PTr ⟨yb, ytb, p, c, T, s, so, d, T⟩ N (S.take i) Y An) ∧ Hid (Rest (Y i) l J 4 (tObj W.heap.size g (ansL An n)))) (fun ix _ => n - (RowKit.intOf ix).toNat)
  case atStart => exact ⟨0, _, (fun _ => yd0 N T), _, [], Nat.zero_le _, rfl, HD1, HP0, HR0⟩
  case round =>
    clear HD1 HP0 HR0
    obtain ⟨i, l, Y, J, An, hin, rfl, HD, HP, HR⟩ := hrel
    rcases Nat.lt_or_ge i n with hi | hi
    · have hi' : (i : Int) < (n : Int) := by omega
      have hiS : i < S.length := by have := HN.out; omega
      obtain ⟨m, hm⟩ : ∃ m, S[i]? = some m := ⟨_, List.getElem?_eq_getElem hiS⟩
      have HM := Lib.hid (List.mem_of_getElem? hm)
      have HTS := Lib.hid (take_snoc hm)
      obtain ⟨b, off, rfl, hbl, hc⟩ := HS.out.move hm
      have hW1 := HD.out.h.below
      have e0 := (hW1.cell (p := ⟨b, off + i * 7, none⟩) hbl).trans hc.c0
      have e1 := (hW1.cell (p := ⟨b, off + i * 7 + 1, none⟩) hbl).trans hc.c1
      have e2 := (hW1.cell (p := ⟨b, off + i * 7 + 2, none⟩) hbl).trans hc.c2
      have e3 := (hW1.cell (p := ⟨b, off + i * 7 + 3, none⟩) hbl).trans hc.c3
      have e4 := (hW1.cell (p := ⟨b, off + i * 7 + 4, none⟩) hbl).trans hc.c4
      have e5 := (hW1.cell (p := ⟨b, off + i * 7 + 5, none⟩) hbl).trans hc.c5
      have e6 := (hW1.cell (p := ⟨b, off + i * 7 + 6, none⟩) hbl).trans hc.c6
      have HD2 := Lib.hid (HD.out.later (below_new (Below.refl wr.heap.size wr) (m.obj 39)))
      clear hW1 hc hm hiS
      go_wp2_with fail
      refine (pdo_any HD2.out (by omega) m (HF.out m HM.out)).mono ?_
      rintro r w4 ⟨a, l1, J1, Y1, rfl, hdo, hd, hg⟩
      have HD1 := Lib.hid hd
      have HR1 := Lib.hid (HR.out.go hg)
      have hlt : (S.take i).length = i := by rw [List.length_take]; have := HN.out; omega
      have hP1 := HP.out.snoc (m := m) (a := a) (Z := Y1) (by rw [hlt]; exact hdo) hd.h.fit (HF.out m HM.out) (by rw [hlt]; omega)
      rw [hlt, ← HTS.out] at hP1
      have hAl : An.length = i := HP.out.len.trans hlt
      obtain ⟨Y2, hY2, HP2⟩ : ∃ Y2 : Nat → Yd, Y2 (i + 1) = Y1 ∧ Hid (PTr ⟨yb, ytb, p, c, T, s, so, d, T⟩ N (S.take (i + 1)) Y2 (An ++ [a])) := ⟨_, if_neg (by omega), Lib.hid hP1⟩
      have hO := (HD1.out.has HR1.out : IsObj w4 g (ansL An n) ∧ W.heap.size ≤ g).1
      have HST := Lib.hid (HD1.out.h.hold.objSet 4 HR1.out.at' i (.int .i64 a))
      have hset : (ansL An n).set i (.int .i64 a) = ansL (An ++ [a]) n := by rw [← hAl]; exact ansL_set An n a (by omega)
      have HSE := Lib.hid hset
      obtain ⟨uu, huu⟩ : ∃ uu, (ansL An n)[i]? = some uu := ⟨_, List.getElem?_eq_getElem (by unfold ansL; rw [List.length_append, List.length_map, List.length_replicate]; omega)⟩
      have c9 := hO.at' i _ huu
      have f9 := hO.fz i
      have HY2 := Lib.hid hY2
      clear hO hset huu hAl hP1 hlt hdo hd hg hY2 e0 e1 e2 e3 e4 e5 e6 HD HD2 HP HR HTS HM
      go_wp2_with fail
      obtain ⟨hD3, hR3⟩ := HD1.out.turnRow HR1.out (by have h := HST.out; rw [HSE.out] at h; exact h)
      have HD3 := Lib.hid hD3
      have HR3 := Lib.hid hR3
      clear hD3 hR3
      go_roundw
      case rel => exact ⟨i + 1, _, Y2, J1, An ++ [a], by omega, by go_num, Lib.hid (by rw [HY2.out]; exact HD3.out), HP2, Lib.hid (by rw [HY2.out]; exact HR3.out)⟩
      case measure => first | omega | (simp [RowKit.intOf]; done) | (simp [RowKit.intOf]; omega)
    · obtain rfl : i = n := by omega
      have hnn : ¬ (i : Int) < (i : Int) := by omega
      clear HS hi hin
      go_wp2_with fail
      have hlen := HN.out
      subst hlen
      have hP := HP.out
      rw [List.take_length] at hP
      have hR := HR.out
      rw [← hP.len, ansL_full] at hR
      exact bodyPost_ret (v := .tuple #[pt yb, .slice (some ⟨g, 0, none⟩) S.length S.length, i64 0]) (by simp [results, Tryz.results13, go_sem]) rfl ⟨W, l, yb, ytb, p, c, Y, An, J, g, rfl, HB.out, HD.out, hP, by rw [← hP.len]; exact hR⟩
end Go.Proofs.YtpfjommkjkbonaaGreat
