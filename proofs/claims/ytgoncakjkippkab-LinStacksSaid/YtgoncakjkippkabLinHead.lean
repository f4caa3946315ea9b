/-
  The head of the laws on calls one behind the other: the document's example. The laws' own calls: which lists are right, which can be done. No condition but that lists are no longer than 100000.
-/
import Derived.Test.YtgoncakjkippkabLinFind
import Derived.Test.YtgoncakjkippkabLinLaw
namespace Go.Proofs.Ytgoncakjkippkab
open Go.RowKit
set_option linter.unusedVariables false

/-- The document's example. -/
def exA : Dd := ⟨0, 0, 1, 1, 0, 0, 3, true, 0, 0, 0⟩
def exB : Dd := ⟨1, 0, 1, 2, 0, 1, 2, true, 0, 0, 0⟩
def exG : Dd := ⟨0, 1, 1, 0, 0, 4, 5, true, 1, 0, 0⟩
def exL : List Dd := [exA, exB, exG]
theorem ex_holds : Holds exL (fun _ => False) [] [1, 0, 2] := by
  refine ⟨by decide, fun _ _ h => h, fun i d hd _ => ?_, fun p i k d o hp hi hk hb => ?_, ⟨[2], rfl⟩⟩
  · match i, hd with
    | 0, _ => exact .inr (by decide)
    | 1, _ => exact .inr (by decide)
    | 2, _ => exact .inr (by decide)
    | i + 3, hd => simp [exL] at hd
  · match k, hk with
    | 0, hk =>
      cases hk
      match p, hp with
      | 0, hp => cases hp; cases hi; exact absurd hb (by decide)
      | 1, hp => cases hp; cases hi; exact absurd hb (by decide)
      | 2, hp => exact .inr ⟨1, by decide, rfl⟩
      | p + 3, hp => simp at hp
    | 1, hk =>
      cases hk
      match p, hp with
      | 0, hp => cases hp; cases hi; exact absurd hb (by decide)
      | 1, hp => exact .inr ⟨0, by decide, rfl⟩
      | 2, hp => exact .inr ⟨0, by decide, rfl⟩
      | p + 3, hp => simp at hp
    | 2, hk =>
      cases hk
      match p, hp with
      | 0, hp => cases hp; cases hi; exact absurd hb (by decide)
      | 1, hp => cases hp; cases hi; exact absurd hb (by decide)
      | 2, hp => cases hp; cases hi; exact absurd hb (by decide)
      | p + 3, hp => simp at hp
    | k + 3, hk => simp [exL] at hk
theorem ex_only {O : List Nat} (h : Holds exL (fun _ => False) [] O) : O = [1, 0, 2] := by
  obtain ⟨r, hr⟩ := h.run
  have hin := oRun_in hr
  have hp : O.Perm (List.range 3) := (List.perm_ext_iff_of_nodup h.nodup List.nodup_range).2 (fun i => by
    rw [List.mem_range]
    refine ⟨hin i, fun hi => ?_⟩
    match i, hi with
    | 0, _ => exact (h.all 0 exA rfl (by decide)).resolve_left id
    | 1, _ => exact (h.all 1 exB rfl (by decide)).resolve_left id
    | 2, _ => exact (h.all 2 exG rfl (by decide)).resolve_left id)
  have hl := hp.length_eq
  rw [List.length_range] at hl
  match O, hl with
  | [p, q, s], _ =>
    have h1 : p < 3 := hin p (by simp)
    have h2 : q < 3 := hin q (by simp)
    have h3 : s < 3 := hin s (by simp)
    have hn := h.nodup
    simp only [List.nodup_cons, List.mem_cons, List.not_mem_nil, or_false, not_or, List.nodup_nil, and_true, not_false_eq_true] at hn
    have h0 : p ≠ 2 := fun e => by subst e; rw [show oRun exL [] [2, q, s] = none from rfl] at hr; cases hr
    rcases (by omega : (p = 0 ∧ q = 1 ∧ s = 2) ∨ (p = 0 ∧ q = 2 ∧ s = 1) ∨ (p = 1 ∧ q = 0 ∧ s = 2) ∨ (p = 1 ∧ q = 2 ∧ s = 0)) with ⟨rfl, rfl, rfl⟩ | ⟨rfl, rfl, rfl⟩ | ⟨rfl, rfl, rfl⟩ | ⟨rfl, rfl, rfl⟩
    · rw [show oRun exL [] [0, 1, 2] = none from rfl] at hr
      cases hr
    · rcases h.ahead 1 2 1 exG exB rfl rfl rfl (by decide) with hh | ⟨q, hq, hh⟩
      · exact hh.elim
      · obtain rfl : q = 0 := by omega
        cases hh
    · rfl
    · rw [show oRun exL [] [1, 2, 0] = none from rfl] at hr
      cases hr

theorem ex_at (W : World) (T : TypeId) : IsDds (W.alloc (.cells #[i64 0, i64 0, i64 1, u64 1, i64 0, i64 0, i64 3, .bool true, u64 0, i64 0, i64 0, i64 1, i64 0, i64 1, u64 2, i64 0, i64 1, i64 2, .bool true, u64 0, i64 0, i64 0, i64 0, i64 1, i64 1, u64 0, i64 0, i64 4, i64 5, .bool true, u64 1, i64 0, i64 0] T)) (some ⟨W.heap.size, 0, none⟩) 3 3 W.heap.size 0 exL :=
  ⟨rfl, Nat.le_refl _, fun _ => ⟨rfl, by simp⟩, fun i d hd => by
    match i, hd with
    | 0, hd => cases hd; exact ⟨⟨by simp [exA], by simp [exA], by simp [exA], by simp [exA], by simp [exA], by simp [exA], by simp [exA], by simp [exA], by simp [exA], by simp [exA], by simp [exA]⟩, ⟨by decide, by decide, by decide, by decide, by decide⟩⟩
    | 1, hd => cases hd; exact ⟨⟨by simp [exB], by simp [exB], by simp [exB], by simp [exB], by simp [exB], by simp [exB], by simp [exB], by simp [exB], by simp [exB], by simp [exB], by simp [exB]⟩, ⟨by decide, by decide, by decide, by decide, by decide⟩⟩
    | 2, hd => cases hd; exact ⟨⟨by simp [exG], by simp [exG], by simp [exG], by simp [exG], by simp [exG], by simp [exG], by simp [exG], by simp [exG], by simp [exG], by simp [exG], by simp [exG]⟩, ⟨by decide, by decide, by decide, by decide, by decide⟩⟩
    | n + 3, hd => simp [exL] at hd⟩
theorem ex_self : (∀ d ∈ exL, ¬ dBef d d) ∧ ∀ d ∈ exL, d.e = 0 ∨ d.e = 1 := by
  constructor
  · intro d hd
    simp only [exL, List.mem_cons, List.not_mem_nil, or_false] at hd
    rcases hd with rfl | rfl | rfl <;> decide
  · intro d hd
    simp only [exL, List.mem_cons, List.not_mem_nil, or_false] at hd
    rcases hd with rfl | rfl | rfl <;> exact .inr rfl
theorem row_int {w : World} {base : Nat} {n cap g : Nat} {O : List Nat} (h : w.ownsRow base 3 1 (.slice (some ⟨g, 0, none⟩) n cap) n (O.map (fun i : Nat => i64 (i : Int)))) {j : Nat} (hj : j < n) : w.cell? ⟨g, j, none⟩ = some (i64 (O.getD j 0 : Nat)) := by
  have hl := h.1
  rw [List.length_map] at hl
  rw [h.cellAt j (by omega), List.getElem?_map, List.getD_eq_getElem?_getD, List.getElem?_eq_getElem (by omega)]
  rfl

set_option maxRecDepth 100000 in
set_option maxHeartbeats 4000000 in
theorem head15_any (w : World) : Calls Try.prog 7 #[] w fun e w' => e = .returned (.bool true) ∧ Below w.heap.size w w' := by
  have hds := ex_at (((w.alloc (exA.obj 38)).alloc (exB.obj 38)).alloc (exG.obj 38)) 38
  have b1 := below_new (Below.refl w.heap.size w) (exA.obj 38)
  have b4 := below_new (Below.refl (((w.alloc (exA.obj 38)).alloc (exB.obj 38)).alloc (exG.obj 38)).heap.size (((w.alloc (exA.obj 38)).alloc (exB.obj 38)).alloc (exG.obj 38))) (.cells #[i64 0, i64 0, i64 1, u64 1, i64 0, i64 0, i64 3, .bool true, u64 0, i64 0, i64 0, i64 1, i64 0, i64 1, u64 2, i64 0, i64 1, i64 2, .bool true, u64 0, i64 0, i64 0, i64 0, i64 1, i64 1, u64 0, i64 0, i64 4, i64 5, .bool true, u64 1, i64 0, i64 0] 38)
  have hG := (AtBd.made ((w.alloc (exA.obj 38)).alloc (exB.obj 38)) exG 38).later b4
  have hB := ((AtBd.made (w.alloc (exA.obj 38)) exB 38).later (below_new (Below.refl _ _) (exG.obj 38))).later b4
  have hA := (((AtBd.made w exA 38).later (below_new (Below.refl _ _) (exB.obj 38))).later (below_new (Below.refl _ _) (exG.obj 38))).later b4
  have hBel := below_step (below_new (below_new b1 (exB.obj 38)) (exG.obj 38)) b4
  simp only [World.size_alloc] at hds hG hB
  have HDS := Lib.hid hds
  have HA := Lib.hid hA
  have HB := Lib.hid hB
  have HG := Lib.hid hG
  have HBL := Lib.hid hBel
  clear hds hA hB hG hBel b1 b4
  go_enter Try.func7, Try.ntmps7
  go_wp2_with fail
  refine (find_any _ (some ⟨w.heap.size + 1 + 1 + 1, 0, none⟩) 3 3 (w.heap.size + 1 + 1 + 1) 0 exL HDS.out ex_self.1 ex_self.2 (by decide)).mono ?_
  rintro r w1 ⟨hb, ⟨A, c, O, _, rfl, hown, hlin⟩ | ⟨rfl, hno⟩⟩
  case inr => exact absurd ⟨_, ex_holds.lin⟩ (hno.resolve_left (by decide))
  obtain rfl := ex_only hlin.holds
  obtain ⟨g, cp, hv, hc, hg⟩ := row_shape hown (by decide)
  cases hv
  have k0 : w1.cell? ⟨g, 0, none⟩ = some (i64 1) := row_int hown (j := 0) (by decide)
  have k1 : w1.cell? ⟨g, 1, none⟩ = some (i64 0) := row_int hown (j := 1) (by decide)
  have k2 : w1.cell? ⟨g, 2, none⟩ = some (i64 2) := row_int hown (j := 2) (by decide)
  obtain ⟨a0, a1, a2, a3, a4, a5, a6, a7, a8, a9, a10⟩ := HA.out.later hb
  obtain ⟨b0, b1, b2, b3, b4, b5, b6, b7, b8, b9, b10⟩ := HB.out.later hb
  obtain ⟨g0, g1, g2, g3, g4, g5, g6, g7, g8, g9, g10⟩ := HG.out.later hb
  have HB1 := Lib.hid (below_step HBL.out hb)
  clear hown hlin hb HA HB HG HBL HDS
  simp only [exA, exB, exG] at a0 a1 a2 a3 a4 a5 a6 a7 a8 a9 a10 b0 b1 b2 b3 b4 b5 b6 b7 b8 b9 b10 g0 g1 g2 g3 g4 g5 g6 g7 g8 g9 g10
  have hc3 : (3 : Nat) ≤ c := hc
  go_wp2_with fail
  refine (legal_any _ (some ⟨w1.heap.size, 0, none⟩) 3 3 w1.heap.size 0 exL false (ex_at w1 38) (by decide) rfl).mono ?_
  rintro r w2 ⟨rfl, hb2⟩
  have HB2 := Lib.hid (below_step (below_new HB1.out _) hb2)
  clear hb2 HB1 a0 a1 a2 a3 a4 a5 a6 a7 a8 a9 a10 b0 b1 b2 b3 b4 b5 b6 b7 b8 b9 b10 g0 g1 g2 g3 g4 g5 g6 g7 g8 g9 g10 k0 k1 k2
  go_wp2_with fail
  go_ret
  exact ⟨rfl, HB2.out⟩

set_option maxHeartbeats 4000000 in
theorem lrights_any (w : World) (a0 : Option Addr) (len cap tb off : Nat) (l : List Dd) (bb : Bool) (h : IsDds w a0 len cap tb off l) (hn : len ≤ 100000) (hb : bb = true ↔ ∀ d ∈ l, cOk d) :
    Calls Try.prog 8 #[.slice a0 len cap] w fun r w' => r = .returned (.bool bb) ∧ Below w.heap.size w w' := by
  have HL := Lib.hid h
  have HBB := Lib.hid hb
  have hcap := HL.out.2.1
  clear h hb
  go_enter Try.func8, Try.ntmps8
  go_wp2_with fail
  have HB0 := Lib.hid (Below.refl w.heap.size w)
  go_loopw [7] (fun iw wr => ∃ i : Nat, i ≤ len ∧ iw = .int .i64 i ∧ Hid (Below w.heap.size w wr) ∧ Hid (∀ (j : Nat) (d : Dd), j < i → l[j]? = some d → cOk d)) (fun iw _ => len - (RowKit.intOf iw).toNat)
  case atStart => exact ⟨0, Nat.zero_le _, rfl, HB0, fun j d hj => absurd hj (Nat.not_lt_zero _)⟩
  case round =>
    clear HB0
    obtain ⟨i, hi, rfl, HB, HP⟩ := hrel
    rcases Nat.lt_or_ge i len with hil | hil
    · have hil' : (i : Int) < (len : Int) := by omega
      obtain ⟨d, hd⟩ : ∃ d, l[i]? = some d := ⟨_, List.getElem?_eq_getElem (by rw [HL.out.1]; exact hil)⟩
      obtain ⟨rfl, htb⟩ := HL.out.2.2.1 (by omega)
      obtain ⟨hA, hF⟩ := (HL.out.later HB.out (fun _ => htb)).2.2.2 i d hd
      obtain ⟨c0, c1, c2, c3, c4, c5, c6, c7, c8, c9, c10⟩ := hA
      have HBN := Lib.hid (below_new HB.out (d.obj 38))
      have HD := Lib.hid hd
      clear hd hF
      by_cases hco : cOk d
      case pos =>
        have e1 : decide (cOk d) = true := decide_eq_true hco
        have HCO := Lib.hid hco
        clear hco
        go_wp2_with fail
        refine (tcright_any _ d).mono ?_
        rintro r w2 ⟨rfl, hb2⟩
        have HB2 := Lib.hid (below_step HBN.out hb2)
        clear hb2 c0 c1 c2 c3 c4 c5 c6 c7 c8 c9 c10
        go_wp2_with fail
        go_roundw
        case rel =>
          refine ⟨i + 1, by omega, by go_num, HB2, fun j e hj he => ?_⟩
          rcases (by omega : j < i ∨ j = i) with hj | rfl
          · exact HP.out j e hj he
          · rw [HD.out] at he
            cases he
            exact HCO.out
        case measure => first | omega | (simp [RowKit.intOf]; done) | (simp [RowKit.intOf]; omega)
      case neg =>
        have e1 : decide (cOk d) = false := decide_eq_false hco
        obtain rfl : bb = false := by
          cases bb with
          | false => rfl
          | true => exact absurd (HBB.out.1 rfl d (List.mem_of_getElem? HD.out)) hco
        clear hco
        go_wp2_with fail
        refine (tcright_any _ d).mono ?_
        rintro r w2 ⟨rfl, hb2⟩
        have HB2 := Lib.hid (below_step HBN.out hb2)
        clear hb2 c0 c1 c2 c3 c4 c5 c6 c7 c8 c9 c10
        go_wp2_with fail
        go_ret
        exact ⟨rfl, HB2.out⟩
    · obtain rfl : i = len := by omega
      have hnl : ¬ (i : Int) < (i : Int) := by omega
      obtain rfl : bb = true := HBB.out.2 (fun d hd => by
        obtain ⟨j, hj⟩ := List.mem_iff_getElem?.1 hd
        exact HP.out j d (by have := (List.getElem?_eq_some_iff.1 hj).1; have := HL.out.1; omega) hj)
      go_wp2_with fail
      go_ret
      exact ⟨rfl, HB.out⟩

set_option maxHeartbeats 4000000 in
theorem llegal_any (w : World) (a0 : Option Addr) (len cap tb off : Nat) (l : List Dd) (bb : Bool) (h : IsDds w a0 len cap tb off l) (hn : len ≤ 100000) (hb : bb = (dRun [] l).isSome) :
    Calls Try.prog 10 #[.slice a0 len cap] w fun r w' => r = .returned (.bool bb) ∧ Below w.heap.size w w' := by
  have HL := Lib.hid h
  have HBB := Lib.hid hb
  have hcap := HL.out.2.1
  clear h hb
  go_enter Try.func10, Try.ntmps10
  go_wp2_with fail
  have HB0 := Lib.hid (below_new (Below.refl w.heap.size w) (.cells #[] 28))
  go_loopw [3, 4, 10] (fun rv kv iw wr => ∃ (i : Nat) (R : List Int) (a : Option Addr) (c : Nat), i ≤ len ∧ rv = .slice a R.length c ∧ R.length ≤ c ∧ iw = .int .i64 i ∧ Hid (Below w.heap.size w wr) ∧ Hid (IsU wr a R ∧ R.length ≤ i ∧ dRun [] (l.take i) = some R)) (fun _ _ iw _ => len - (RowKit.intOf iw).toNat)
  case atStart => exact ⟨0, [], _, 0, Nat.zero_le _, rfl, Nat.le_refl _, rfl, HB0, IsU.nil _ _, Nat.le_refl _, by rw [List.take_zero]; rfl⟩
  case round =>
    clear HB0
    obtain ⟨i, R, a, c, hi, rfl, hRc, rfl, HB, HP⟩ := hrel
    rcases Nat.lt_or_ge i len with hil | hil
    · have hil' : (i : Int) < (len : Int) := by omega
      obtain ⟨d, hd⟩ : ∃ d, l[i]? = some d := ⟨_, List.getElem?_eq_getElem (by rw [HL.out.1]; exact hil)⟩
      obtain ⟨rfl, htb⟩ := HL.out.2.2.1 (by omega)
      obtain ⟨hA, hF⟩ := (HL.out.later HB.out (fun _ => htb)).2.2.2 i d hd
      obtain ⟨c0, c1, c2, c3, c4, c5, c6, c7, c8, c9, c10⟩ := hA
      have hbn := below_new (Below.refl wr.heap.size wr) (d.obj 38)
      have HBN := Lib.hid (below_step HB.out hbn)
      have HUN := Lib.hid (HP.out.1.later hbn)
      have HD := Lib.hid hd
      clear hd hF hbn
      go_wp2_with fail
      refine (ldo_any _ a c R d HUN.out hRc (by have := HP.out.2.1; omega)).mono ?_
      rintro r w2 ⟨hb2, a2, n2, c2', ok, rfl, h1, h2⟩
      have HB2 := Lib.hid (below_step HBN.out hb2)
      clear hb2 c0 c1 c2 c3 c4 c5 c6 c7 c8 c9 c10
      cases hdo : dDo R d
      case none =>
        obtain rfl := h2 hdo
        have HO := Lib.hid hdo
        clear h1 h2 hdo
        obtain rfl : bb = false := by rw [HBB.out, run_stop HP.out.2.2 HD.out HO.out]; rfl
        go_wp2_with fail
        go_ret
        exact ⟨rfl, HB2.out⟩
      case some R' =>
        obtain ⟨rfl, rfl, hnc, hU'⟩ := h1 R' hdo
        have HN : Hid (IsU w2 a2 R' ∧ R'.length ≤ i + 1 ∧ dRun [] (l.take (i + 1)) = some R') := ⟨hU', by have := dDo_len hdo; have := HP.out.2.1; omega, run_on HP.out.2.2 HD.out hdo⟩
        clear h1 h2 hdo hU'
        go_wp2_with fail
        go_roundw
        case rel => exact ⟨i + 1, R', a2, c2', by omega, rfl, hnc, by go_num, HB2, HN⟩
        case measure => first | omega | (simp [RowKit.intOf]; done) | (simp [RowKit.intOf]; omega)
    · obtain rfl : i = len := by omega
      have hnl : ¬ (i : Int) < (i : Int) := by omega
      obtain rfl : bb = true := HBB.out.trans (run_all HP.out.2.2 HL.out.1 (Nat.le_refl _))
      go_wp2_with fail
      go_ret
      exact ⟨rfl, HB.out⟩
end Go.Proofs.Ytgoncakjkippkab
