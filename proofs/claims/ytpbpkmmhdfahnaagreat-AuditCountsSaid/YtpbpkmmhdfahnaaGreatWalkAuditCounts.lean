/-
  AuditCounts answers true for all lists of moves and all numbers, and leaves all memory that was there as it was. No condition.
-/
import Derived.Test.YtpbpkmmhdfahnaaGreatAuditRun
import Derived.Test.YtpbpkmmhdfahnaaGreatAuditHead
import Derived.Test.YtpbpkmmhdfahnaaGreatCountsCalls
namespace Go.Proofs.YtpbpkmmhdfahnaaGreat
open Go.RowKit
set_option linter.unusedVariables false

section
variable {pl : Nat → Pl} {t n : Nat} {Y : Yd}
theorem YOk.afit (h : YOk pl t n Y) (ht : t ≤ 1000) (hn : n ≤ 1000000) {d : Dd} (hd : d ∈ Y.ds) : d.Fit := by
  obtain ⟨i, hi⟩ := List.mem_iff_getElem?.1 hd
  obtain ⟨⟨w, hw, hwt, _⟩, f0, f1, f2⟩ := h.deed i d hi
  have hm := h.most
  refine ⟨WalkArith.wf_i64 (by omega), by omega, by omega, ?_, ?_⟩
  · by_cases e : d.till = -1
    · omega
    · have := (f2 e).1
      omega
  · by_cases e : d.till = -1
    · omega
    · have := (f2 e).2
      omega
theorem YOk.anot (h : YOk pl t n Y) {i : Nat} {d : Dd} (hd : Y.ds[i]? = some d) (ht : d.till < 0) : d.ok = false := by
  obtain ⟨⟨w, hw, hwt, h1⟩, f0, f1, f2⟩ := h.deed i d hd
  by_cases e : d.till = -1
  · obtain ⟨T, hT⟩ := h1 e
    obtain ⟨_, _, _, _, d', hd', _, _, hok, _⟩ := h.task w T i hT
    rw [hd] at hd'
    cases hd'
    exact hok
  · have := (f2 e).1
    omega
end
theorem ads_own {w : World} {base n cap : Nat} {A : Option Addr} {L : List Dd} (h : w.ownsRow base 53 11 (.slice A n cap) n (flatD L)) (hn : L.length = n) (hF : ∀ d ∈ L, d.Fit) : ∃ tb, IsDds w A n cap tb 0 L := by
  subst hn
  have hc := own_cap h
  rcases h.2 with ⟨hv, h0⟩ | ⟨g, cap', cur, hv, _, hh, _⟩
  · have hl : L = [] := List.eq_nil_of_length_eq_zero h0
    subst hl
    exact ⟨0, rfl, hc, fun hp => absurd hp (Nat.lt_irrefl _), fun i d hd => by cases hd⟩
  · cases hv
    refine ⟨g, rfl, hc, fun _ => ⟨rfl, (Array.getElem?_eq_some_iff.1 hh).1⟩, fun i d hd => ⟨?_, hF d (List.mem_of_getElem? hd)⟩⟩
    rw [Nat.zero_add]
    exact AtDd.row h hd

set_option maxRecDepth 100000 in
set_option maxHeartbeats 8000000 in
theorem walk_AuditCounts (a0 : Int) (a1 : Int) (a2 : Int) (a3 : Option Addr) (len3 cap3 : Nat) (w : World) (w0 : (Lit.int .i64 a0).wf = true) (w1 : (Lit.int .i64 a1).wf = true) (w2 : (Lit.int .i64 a2).wf = true) (w3 : IsRows w [.inl .i64, .inl .i64, .inr true, .inr true, .inl .u64, .inl .i64, .inl .i64] a3 len3 cap3) :
    Calls Tryz.prog 5 #[.int .i64 a0, .int .i64 a1, .int .i64 a2, .slice a3 len3 cap3] w fun e w' => e = .returned (.bool true) ∧ Below w.heap.size w w' := by
  clear w0 w1 w2
  rcases Nat.lt_or_ge 300 len3 with hbig | hs4
  · have hbig' : (300 : Int) < (len3 : Int) := by omega
    clear w3
    go_enter Tryz.func5, Tryz.ntmps5
    go_wp2_with fail
    refine (head17_any _).mono ?_
    rintro e w1 ⟨rfl, hb1⟩
    go_wp2_with fail
    go_ret
    exact ⟨rfl, hb1⟩
  have p4 : decide ((300 : Int) < (len3 : Int)) = false := decide_eq_false (by omega)
  obtain ⟨tb, off, X, hX⟩ := rows_mvs w3
  have HX0 : Hid (IsMvs w a3 len3 cap3 tb off X) := hX
  clear w3 hX
  go_enter Tryz.func5, Tryz.ntmps5
  go_wp2_with fail
  refine (head17_any _).mono ?_
  rintro e w1 ⟨rfl, hb1⟩
  have HX1 := Lib.hid (HX0.out.later hb1 (fun i hi => (HX0.out i hi).2.2.1))
  have HB1 := Lib.hid hb1
  clear hb1
  go_wp2_with fail
  refine (arun_any a0 a1 a2 a3 len3 cap3 tb off X _ HX1.out hs4).mono ?_
  rintro r w2 ⟨W, l, yb, ytb, p, c, T, s, so, d, N, Y, J, n, rfl, hbW, hY, hn, haok, hcok, hfit, hnum, hT, hN⟩
  have HBW := Lib.hid (below_step HB1.out hbW)
  have HY := Lib.hid hY
  have HLY : Hid (Lay T s N) := Lib.hid hY.cf.lay
  have HKD := Lib.hid (fun i d (hd : Y.ds[i]? = some d) => And.intro (hnum.kind i d hd).1 (fun ht => hY.ok.anot (d := d) hd ht))
  have HDF := Lib.hid (fun d (hd : d ∈ Y.ds) => hY.ok.afit (d := d) (by show T ≤ 1000; omega) (by omega) hd)
  have hnl : Y.ds.length ≤ 1000 := by have := hY.ok.nds; have := hY.ok.most; omega
  have HOUT := Lib.hid hcok.out
  have HCF := Lib.hid hY.h.fit
  clear hbW hY haok hcok hfit hnum HB1
  go_wp2_with fail
  refine (HY.out.deeds (by omega)).mono ?_
  rintro r w3 ⟨v, rfl, hrow, hb3⟩
  obtain ⟨A, cp, rfl⟩ := own_shape hrow
  obtain ⟨g, hdd⟩ := ads_own hrow rfl HDF.out
  have HY3 := Lib.hid (HY.out.later hb3)
  have HL3 := Lib.hid hdd
  clear hrow hb3 hdd HY HDF
  obtain ⟨M, hM⟩ : ∃ M, Y.ds.length = M := ⟨_, rfl⟩
  rw [hM] at HL3 hnl ⊢
  have HM := Lib.hid hM
  clear hM
  go_wp2_with fail
  go_loopw [10, 11, 12, 33] (fun pv gv qv iw wr => ∃ i a b q : Nat, i ≤ M ∧ a ≤ i ∧ b ≤ i ∧ q ≤ i ∧ pv = .int .i64 a ∧ gv = .int .i64 b ∧ qv = .int .i64 q ∧ iw = .int .i64 i ∧ Hid (cntL isPut (Y.ds.take i) = a ∧ cntL isHad (Y.ds.take i) = b ∧ cntL isPend (Y.ds.take i) = q) ∧ Hid (Below w3.heap.size w3 wr)) (fun _ _ _ iw _ => M - (RowKit.intOf iw).toNat)
  case atStart => exact ⟨0, 0, 0, 0, Nat.zero_le _, Nat.le_refl _, Nat.le_refl _, Nat.le_refl _, rfl, rfl, rfl, rfl, ⟨rfl, rfl, rfl⟩, Below.refl _ _⟩
  case round =>
    obtain ⟨i, a, b, q, hi, ha, hb, hq, rfl, rfl, rfl, rfl, HS, HB⟩ := hrel
    rcases Nat.lt_or_ge i M with hil | hil
    · have hil' : (i : Int) < (M : Int) := by omega
      obtain ⟨d, hd⟩ : ∃ d, Y.ds[i]? = some d := ⟨_, List.getElem?_eq_getElem (by rw [HM.out]; exact hil)⟩
      have HLr := Lib.hid (HL3.out.later HB.out (fun h => (HL3.out.2.2.1 h).2))
      have hat := (HLr.out.2.2.2 i d hd).1
      rw [Nat.zero_add] at hat
      obtain ⟨c0, c1, c2, c3, c4, c5, c6, c7, c8, c9, c10⟩ := hat
      obtain ⟨rfl, htb⟩ := HLr.out.2.2.1 (by omega)
      have hcap := HLr.out.2.1
      have hic : ¬ cp = 0 := by omega
      obtain ⟨hkd, hnot⟩ := HKD.out i d hd
      have s0 : cntL isPut (Y.ds.take (i + 1)) = cntL isPut (Y.ds.take i) + if isPut d = true then 1 else 0 := by rw [List.take_add_one, hd]; exact cntL_snoc
      have s1 : cntL isHad (Y.ds.take (i + 1)) = cntL isHad (Y.ds.take i) + if isHad d = true then 1 else 0 := by rw [List.take_add_one, hd]; exact cntL_snoc
      have s2 : cntL isPend (Y.ds.take (i + 1)) = cntL isPend (Y.ds.take i) + if isPend d = true then 1 else 0 := by rw [List.take_add_one, hd]; exact cntL_snoc
      rw [HS.out.1] at s0
      rw [HS.out.2.1] at s1
      rw [HS.out.2.2] at s2
      clear hd HS HLr
      rw [show isPut d = (d.ok && decide (d.kd = 0)) from rfl] at s0
      rw [show isHad d = (d.ok && decide (d.kd = 1)) from rfl] at s1
      rw [show isPend d = (decide (d.till < 0) && decide (d.kd = 1)) from rfl] at s2
      by_cases ht : d.till < 0
      · have hok := hnot ht
        have t0 : decide (d.till < 0) = true := decide_eq_true ht
        rw [hok] at c7 s0 s1
        rw [t0] at s2
        rcases hkd with hk | hk
        · have k1 : (d.kd == 1) = false := by simp [hk]
          rw [hk] at s2
          have HS2 : Hid (cntL isPut (Y.ds.take (i + 1)) = a ∧ cntL isHad (Y.ds.take (i + 1)) = b ∧ cntL isPend (Y.ds.take (i + 1)) = q) := Lib.hid ⟨by simpa using s0, by simpa using s1, by simpa using s2⟩
          clear s0 s1 s2 hok hnot hk
          go_wp2_with fail
          go_roundw
          case rel => exact ⟨i + 1, a, b, q, by omega, by omega, by omega, by omega, rfl, rfl, rfl, by go_num, HS2, below_new HB.out _⟩
          case measure => first | omega | (simp [RowKit.intOf]; done) | (simp [RowKit.intOf]; omega)
        · have k1 : (d.kd == 1) = true := by simp [hk]
          rw [hk] at s2
          have HS2 : Hid (cntL isPut (Y.ds.take (i + 1)) = a ∧ cntL isHad (Y.ds.take (i + 1)) = b ∧ cntL isPend (Y.ds.take (i + 1)) = q + 1) := Lib.hid ⟨by simpa using s0, by simpa using s1, by simpa using s2⟩
          clear s0 s1 s2 hok hnot hk
          go_wp2_with fail
          go_roundw
          case rel => exact ⟨i + 1, a, b, q + 1, by omega, by omega, by omega, by omega, rfl, rfl, by go_num, by go_num, HS2, below_new HB.out _⟩
          case measure => first | omega | (simp [RowKit.intOf]; done) | (simp [RowKit.intOf]; omega)
      · have t0 : decide (d.till < 0) = false := decide_eq_false ht
        rw [t0] at s2
        cases hok : d.ok with
        | false =>
          rw [hok] at c7 s0 s1
          have HS2 : Hid (cntL isPut (Y.ds.take (i + 1)) = a ∧ cntL isHad (Y.ds.take (i + 1)) = b ∧ cntL isPend (Y.ds.take (i + 1)) = q) := Lib.hid ⟨by simpa using s0, by simpa using s1, by simpa using s2⟩
          clear s0 s1 s2 hok hnot hkd
          go_wp2_with fail
          go_roundw
          case rel => exact ⟨i + 1, a, b, q, by omega, by omega, by omega, by omega, rfl, rfl, rfl, by go_num, HS2, below_new HB.out _⟩
          case measure => first | omega | (simp [RowKit.intOf]; done) | (simp [RowKit.intOf]; omega)
        | true =>
          rw [hok] at c7 s0 s1
          rcases hkd with hk | hk
          · have k1 : (d.kd == 0) = true := by simp [hk]
            rw [hk] at s0 s1
            have HS2 : Hid (cntL isPut (Y.ds.take (i + 1)) = a + 1 ∧ cntL isHad (Y.ds.take (i + 1)) = b ∧ cntL isPend (Y.ds.take (i + 1)) = q) := Lib.hid ⟨by simpa using s0, by simpa using s1, by simpa using s2⟩
            clear s0 s1 s2 hok hnot hk
            go_wp2_with fail
            go_roundw
            case rel => exact ⟨i + 1, a + 1, b, q, by omega, by omega, by omega, by omega, by go_num, rfl, rfl, by go_num, HS2, below_new HB.out _⟩
            case measure => first | omega | (simp [RowKit.intOf]; done) | (simp [RowKit.intOf]; omega)
          · have k1 : (d.kd == 0) = false := by simp [hk]
            rw [hk] at s0 s1
            have HS2 : Hid (cntL isPut (Y.ds.take (i + 1)) = a ∧ cntL isHad (Y.ds.take (i + 1)) = b + 1 ∧ cntL isPend (Y.ds.take (i + 1)) = q) := Lib.hid ⟨by simpa using s0, by simpa using s1, by simpa using s2⟩
            clear s0 s1 s2 hok hnot hk
            go_wp2_with fail
            go_roundw
            case rel => exact ⟨i + 1, a, b + 1, q, by omega, by omega, by omega, by omega, rfl, by go_num, rfl, by go_num, HS2, below_new HB.out _⟩
            case measure => first | omega | (simp [RowKit.intOf]; done) | (simp [RowKit.intOf]; omega)
    · obtain rfl : i = M := by omega
      have hnn : ¬ (i : Int) < (i : Int) := by omega
      have hs := HS.out
      rw [List.take_of_length_le (by rw [HM.out]; exact Nat.le_refl _)] at hs
      obtain ⟨o1, o2, o3⟩ := HOUT.out
      rw [hs.1, hs.2.1] at o2
      rw [hs.1, hs.2.1, hs.2.2] at o3
      have HY5 := Lib.hid (HY3.out.later HB.out)
      obtain ⟨f, hf⟩ : ∃ f, stN 0 Y.C N = f := ⟨_, rfl⟩
      obtain ⟨lv, hlv⟩ : ∃ f, stN 1 Y.C N = f := ⟨_, rfl⟩
      obtain ⟨gn, hgn⟩ : ∃ f, stN 2 Y.C N = f := ⟨_, rfl⟩
      rw [hf, hlv, hgn] at o1
      rw [hlv] at o2 o3
      have HF0 := Lib.hid hf
      have HF1 := Lib.hid hlv
      have HF2 := Lib.hid hgn
      have z1 : ((f : Int) + (lv : Int) + (gn : Int) == (N : Int)) = true := beq_iff_eq.2 (by omega)
      have z2 : (lv : Int) ≤ (a : Int) - (b : Int) := by omega
      have z3 : (a : Int) - (b : Int) - (q : Int) ≤ (lv : Int) := by omega
      have b1 : f ≤ 5000 ∧ lv ≤ 5000 ∧ gn ≤ 5000 := by omega
      have hN1 : 0 < N := by have := HLY.out.n1; have := HLY.out.t1; omega
      obtain ⟨b2, b3, b4⟩ := b1
      clear hs HS HB HY3 HL3 HOUT hf hlv hgn o1 o2 o3
      go_wp2_with fail
      refine (HY5.out.words).mono ?_
      rintro r w5 ⟨u, Xs, rfl, hr, hl5, hx5, hb5⟩
      obtain ⟨g5, cap5, rfl⟩ := own_at hr hN1
      have HW5 : Hid (∀ i, i < N → w5.cell? ⟨g5, i, none⟩ = some (.int .u64 (Y.C.getD i 0))) := Lib.hid (fun i hi => by have h := hx5 i hi; rw [Nat.zero_add] at h; rw [← h]; exact row_at hr hi)
      have hcap5 := own_cap hr
      have HY6 := Lib.hid (HY5.out.later hb5)
      clear hr hl5 hx5 hb5 HY5
      go_wp2_with fail
      refine (acounts_any w5 g5 N cap5 Y.C HW5.out HCF.out (by omega) hcap5).mono ?_
      rintro r w6 ⟨rfl, hb⟩
      rw [HF0.out, HF1.out, HF2.out]
      have HY7 := Lib.hid (HY6.out.later hb)
      clear hb HY6 HW5
      obtain ⟨v7, vd7, X7, hA7⟩ := HY7.out.h
      have HA7 := Lib.hid hA7
      clear hA7
      go_wp2_with fail
      refine (yconf_any HA7.out).mono ?_
      rintro r w8 ⟨rfl, hb⟩
      have HY8 := Lib.hid (HY7.out.later hb)
      clear hb HY7 HA7
      go_wp2_with fail
      refine (call_any _ _ _ _ N _ HLY.out).mono ?_
      rintro r w9 ⟨rfl, hb⟩
      have HY9 := Lib.hid (HY8.out.later hb)
      clear hb HY8
      go_wp2_with fail
      go_ret
      exact ⟨rfl, below_step HBW.out HY9.out.h.below⟩
end Go.Proofs.YtpbpkmmhdfahnaaGreat
