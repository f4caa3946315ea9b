/-
  WholeQueue answers true for all numbers and lists of moves, and leaves all memory that was there as it was. No condition.
-/
import Derived.Test.YtpfjommkjkbonaaGreatQC12
import Derived.Test.YtpfjommkjkbonaaGreatQC11
namespace Go.Proofs.YtpfjommkjkbonaaGreat
open Go.RowKit
set_option linter.unusedVariables false

theorem wp_make_top {P : Program} {o : Oper} {a : Act} {w : World} {K : Act → World → Prop} {Q : Exit → Act → World → Prop} (l c : Operand) (t : TypeId) (hop : o.op = Op.makeSlice t l c)
    (base : Nat) (e : TypeId) (i : TypeInfo) (z : Value) (size : Nat) (h1 : P.underlying t = some (.slice e)) (h2 : P.info? e = some i) (h3 : i.zero = some z) (h4 : i.size = size)
    (kl kc : IntKind) (n : Nat) (hl : a.eval l = .int kl (n : Int)) (hc : a.eval c = .int kc (n : Int)) (b2 : i.bytes * n ≤ 281474976710656) (b3 : n ≤ maxLen) (b4 : base ≤ w.heap.size)
    (hK : ∀ w', w'.ownsRow base e size (.slice (some ⟨w.heap.size, 0, none⟩) n n) n (madeCells z.cells (n * size)).toList → w.grownBy w' none → K (a.put o.dst (.slice (some ⟨w.heap.size, 0, none⟩) n n)) w') :
    Oper.wp P o a w K Q := by
  obtain ⟨w', hrun, r1, r2⟩ := run_make_full (P := P) w base t e i z size h1 h2 h3 h4 kl kc n b2 b3 b4
  unfold Oper.wp
  simp [execOp, hop, hl, hc, hrun, Result.andThen]
  exact hK w' r1 r2

/-- make, where what is ahead of it lets it be done. -/
theorem list_make_if {P : Program} {ops : Array Oper} {rest : List Oper} {o : Oper} {a : Act} {w : World} {Q : Exit → Act → World → Prop} (hw : Region.wanted o (yielded ops a.tmps) = true) (l c : Operand) (t : TypeId) (hop : o.op = Op.makeSlice t l c)
    (base : Nat) (e : TypeId) (i : TypeInfo) (z : Value) (size : Nat) (h1 : P.underlying t = some (.slice e)) (h2 : P.info? e = some i) (h3 : i.zero = some z) (h4 : i.size = size)
    (kl kc : IntKind) (n : Nat) (hl : a.eval l = .int kl (n : Int)) (hc : a.eval c = .int kc (n : Int)) (b2 : i.bytes * n ≤ 281474976710656) (b3 : n ≤ maxLen) (b4 : base ≤ w.heap.size)
    (hK : ∀ w', w'.ownsRow base e size (.slice (some ⟨w.heap.size, 0, none⟩) n n) n (madeCells z.cells (n * size)).toList → w.grownBy w' none → wpList P ops Q rest (a.put o.dst (.slice (some ⟨w.heap.size, 0, none⟩) n n)) w') : wpList P ops Q (o :: rest) a w := by
  unfold wpList
  rw [if_pos hw]
  exact .inl (wp_make_top l c t hop base e i z size h1 h2 h3 h4 kl kc n hl hc b2 b3 b4 hK)
theorem none_in (n k : Nat) : ¬ inS (List.replicate n false) k := fun h => by
  unfold inS at h
  rw [List.getD_eq_getElem?_getD, List.getElem?_replicate] at h
  split at h <;> simp at h
/-- An order of them is found. -/
theorem some_yes {ds : List Dd} {W w : World} {A : Option Addr} {n cp tb : Nat} (hD : IsDds W A n cp tb 0 ds) (hn : n ≤ 1000) (hK : ∀ d ∈ ds, d.e = 0 ∨ d.e = 1) (hO : ∃ O, Holds ds (fun _ => False) [] O) (hb : Below W.heap.size W w) {ab : Option Addr} {capb : Nat} (hI : IsB w ab (List.replicate n false)) (hc : n ≤ capb) :
    Calls Tryz.prog 26 #[.slice A n cp, .slice ab n capb, .slice none 0 0] w fun r w' => r = .returned (.bool true) ∧ Below w.heap.size w w' := by
  obtain ⟨O, hO⟩ := hO
  exact zCG ds W A n cp tb 0 hD hn hK n w ab capb (List.replicate n false) none 0 [] true hb (by rw [List.countP_replicate]; simp) List.length_replicate hc (Nat.zero_le _) (Nat.le_refl _) hI (IsU.nil _ _) ⟨fun _ => ⟨O, hO.lin.same (fun k => ⟨fun h => h.elim, fun h => none_in n k h⟩)⟩, fun _ => rfl⟩

set_option maxRecDepth 100000 in
set_option maxHeartbeats 8000000 in
theorem walk_WholeQueue (a0 : Int) (a1 : Int) (a2 : Int) (a3 : Option Addr) (len3 cap3 : Nat) (w : World) (w0 : (Lit.int .i64 a0).wf = true) (w1 : (Lit.int .i64 a1).wf = true) (w2 : (Lit.int .i64 a2).wf = true) (w3 : IsRows w [.inl .i64, .inl .i64, .inl .i64, .inl .i64, .inr true, .inr true, .inl .u64, .inl .i64] a3 len3 cap3) :
    Calls Tryz.prog 9 #[.int .i64 a0, .int .i64 a1, .int .i64 a2, .slice a3 len3 cap3] w fun e w' => e = .returned (.bool true) ∧ Below w.heap.size w w' := by
  clear w0 w1 w2
  obtain ⟨V, rfl, hV⟩ := zCE w3
  have HV := zJH hV
  clear w3 hV
  rcases Nat.lt_or_ge 300 V.length with hbig | hs4
  · have hbig' : (300 : Int) < (V.length : Int) := by omega
    go_enter Tryz.func9, Tryz.ntmps9
    go_wp2_with fail
    refine (zAs _).mono ?_
    rintro e w1 ⟨rfl, hb1⟩
    go_wp2_with fail
    go_ret
    exact ⟨rfl, hb1⟩
  have hs5 : ¬ (300 : Int) < (V.length : Int) := by omega
  go_enter Tryz.func9, Tryz.ntmps9
  go_wp2_with fail
  refine (zAs _).mono ?_
  rintro e w1 ⟨rfl, hb1⟩
  have HB1 := zJH hb1
  have HV1 := zJH (HV.out.later hb1)
  clear hb1 HV
  go_wp2_with fail
  refine (zDz a0 a1 a2 1 7 a3 cap3 V _ HV1.out (by omega) (.inr (.inl rfl))).mono ?_
  rintro r w2 ⟨W, l, yb, ytb, p, c, T, s, so, N, S, Yf, An, J, g, hR, hTe⟩
  obtain rfl := hR.ret
  have HY := zJH hR.run.yd
  have HB2 := zJH (zAB HB1.out hR.below)
  have hT4 := hR.T4
  have hn16 := hR.n16
  have hak := hR.ok.asks hR.is hR.run.tr
  have hst : ∀ d ∈ (Yf S.length).ds, d.e = 1 - d.kd := fun d hd => hR.run.tr.have (Nat.le_refl _) (P := fun a => a.2.2.1 = 1 - a.2.1) (fun m hm k0 => zC6 (T := 1 + a0 % 4) (most := 7) V m (by rw [← hTe, hR.is]; exact hm) k0) hd
  have hlin := zBt hR.run.tr.tr (by omega) (fun i d hd => (hak.dkind (List.mem_of_getElem? hd)).1) (fun i d hd => hst d (List.mem_of_getElem? hd))
  have hSl : S.length ≤ 300 := by have h := hR.ok.len; have := hR.few; rw [hR.is] at h; omega
  have hqa : ∀ a ∈ (Yf S.length).ds.map Dd.ask, a.2.2.1 = 1 - a.2.1 := fun a ha => by
    obtain ⟨d, hd, rfl⟩ := List.mem_map.1 ha
    exact hst d hd
  have HLIN := zJH hlin
  have HAK := zJH hak
  have HQA := zJH hqa
  have HTR := zJH hR.run.tr.tr
  have HS4 := zJH (And.intro hR.s4 (And.intro hR.T1 hR.s1))
  clear hR hak hst hlin hqa HB1 HV1 hTe
  go_wp2_with fail
  refine (HY.out.deeds (by omega)).mono ?_
  rintro r w3 ⟨v3, rfl, hrow3, hb3⟩
  obtain ⟨A3, cp3, rfl⟩ := zAK hrow3
  have hbase : W.heap.size ≤ w2.heap.size := HY.out.h.size
  have HY3 := zJH (HY.out.more (A := tRow W.heap.size 76 11 (.slice A3 (Yf S.length).ds.length cp3) (Yf S.length).ds.length (flatD (Yf S.length).ds)) hb3 (zA0 _ _ _ _ _ _) (zCC hrow3 hbase) (fun q hq => (hrow3.lt q hq).1))
  have HR3 := zJH (HY.out.rest (tRow W.heap.size 76 11 (.slice A3 (Yf S.length).ds.length cp3) (Yf S.length).ds.length (flatD (Yf S.length).ds)))
  have HFI := zJH (fun d hd => HY.out.ok.fitT (d := d) (by show T ≤ 1000; omega) (by omega) hd)
  have hdl : (Yf S.length).ds.length ≤ 300 := by have := HY.out.ok.nds; have := HY.out.ok.most; omega
  clear hb3 hrow3 HY hbase
  go_wp2_with fail
  refine (zCK (n := S.length) HY3.out HTR.out (by omega) (by show T ≤ 4; omega) (by omega) (by have := HS4.out; show s ≤ 4; omega) (by show (1 : Int) ≤ 3; decide)).mono ?_
  rintro r w4 ⟨sn, j, l4, Y4, J4, Yg, rfl, hF⟩
  have hask := zFF hF.tick
  have hak4 : AsksOk (Y4.ds.map Dd.ask) := by rw [hask]; exact HAK.out
  have hlin4 := zBt hF.tr (by omega) (fun i d hd => (hak4.dkind (by rw [hF.at'] at hd; exact List.mem_of_getElem? hd)).1) (fun i d hd => by
    rw [hF.at'] at hd
    exact HQA.out d.ask (by rw [← hask]; exact List.mem_map_of_mem (List.mem_of_getElem? hd)))
  rw [hF.at'] at hlin4
  have HY4 := zJH hF.yd
  have HROW : Hid (w4.ownsRow W.heap.size 76 11 (.slice A3 (Yf S.length).ds.length cp3) (Yf S.length).ds.length (flatD (Yf S.length).ds)) := zJH (hF.yd.has (HR3.out.go hF.go))
  have HLIN4 := zJH hlin4
  have HK4 := zJH (fun d hd => (hak4.dkind (d := d) hd).2)
  have HK := zJH (fun d hd => (HAK.out.dkind (d := d) hd).2)
  have hfew := hF.few
  have hdl4 : Y4.ds.length ≤ 300 := by rw [zEe hF.tick]; exact hdl
  clear hask hak4 hlin4 hF HY3 HR3 HAK HQA HTR HS4
  go_wp2_with fail
  refine (HY4.out.deedsT (by omega) (by show T ≤ 1000; omega)).mono ?_
  rintro r w5 ⟨A5, cp5, tb5, rfl, hb5, hD5⟩
  obtain ⟨tb, hD⟩ := zEt HROW.out HFI.out
  have HB5 := zJH (zAB HB2.out (HY4.out.later hb5).h.below)
  have HD := zJH (hD.less hb5)
  have HD5 := zJH hD5
  clear hb5 hD5 hD HY4 HROW HFI HB2
  obtain ⟨n, hn⟩ : ∃ n, (Yf S.length).ds.length = n := ⟨_, rfl⟩
  rw [hn] at hdl HD ⊢
  have HN := zJH hn
  clear hn
  obtain ⟨n4, hn4⟩ : ∃ n, Y4.ds.length = n := ⟨_, rfl⟩
  rw [hn4] at hdl4 HD5 ⊢
  have HN4 := zJH hn4
  clear hn4
  obtain ⟨ii, hi0, hz0, hz1, hz2⟩ := zAY.info
  go_wp2_with (at_make; refine wpList_make_full _ rfl _ _ 64 rfl w5.heap.size 4 ii (.bool false) 1 zAY.und hi0 hz0 hz1 .i64 .i64 _ _ n rfl rfl rfl rfl (by rw [hz2]; omega) (by unfold maxLen; omega) (Nat.le_refl _) ?_; intro w7 hown hgrow)
  have hb7 : Below w5.heap.size w5 w7 := (Below.refl _ _).grown hgrow (Nat.le_refl _) (fun k hk => by cases hk)
  rw [zAy] at hown
  have HIB := zJH (IsB.own hown)
  have HB7 := zJH (zAB HB5.out hb7)
  have HW7 := zJH hb7
  clear hown hgrow hb7
  refine (some_yes HD.out (by omega) HK.out HLIN.out HW7.out HIB.out.1 (Nat.le_refl _)).mono ?_
  rintro r w8 ⟨rfl, hb8⟩
  have HB8 := zJH (zAB HB7.out hb8)
  have HW8 := zJH (zAB HW7.out hb8)
  clear hb8
  go_wp2_with (at_make; refine list_make_if (by first | rfl | simp [Region.wanted, yielded, go_sem]) _ _ 64 rfl w8.heap.size 4 ii (.bool false) 1 zAY.und hi0 hz0 hz1 .i64 .i64 n4 rfl rfl (by rw [hz2]; omega) (by unfold maxLen; omega) (Nat.le_refl _) ?_; intro w9 hown hgrow)
  have hb9 : Below w8.heap.size w8 w9 := (Below.refl _ _).grown hgrow (Nat.le_refl _) (fun k hk => by cases hk)
  rw [zAy] at hown
  have HIB9 := zJH (IsB.own hown)
  have HB9 := zJH (zAB HB8.out hb9)
  have HW9 := zJH (zAB HW8.out hb9)
  clear hown hgrow hb9 hi0 hz0 hz1 hz2
  refine (some_yes HD5.out (by omega) HK4.out HLIN4.out HW9.out HIB9.out.1 (Nat.le_refl _)).mono ?_
  rintro r w10 ⟨rfl, hb10⟩
  have HB10 := zJH (zAB HB9.out hb10)
  clear hb10
  go_wp2_with fail
  go_ret
  exact ⟨rfl, HB10.out⟩
end Go.Proofs.YtpfjommkjkbonaaGreat
