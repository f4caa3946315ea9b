/-
  The laws' own search: whether there is an order at all. No condition but that lists are no longer than 1000.
-/
import Derived.Test.YtgoncakjkippkaaLinRows
namespace Go.Proofs.Ytgoncakjkippkaa
open Go.RowKit
set_option linter.unusedVariables false

set_option maxHeartbeats 2000000 in
theorem lanswered_any (w : World) (a : Option Addr) (cap : Nat) (R : List Int) (d : Dd) (h : IsU w a R) (hc : R.length ≤ cap) (hn : R.length ≤ 1000000) (he : d.e = 0 ∨ d.e = 1) :
    Calls Try.prog 23 #[.slice a R.length cap, d.val] w fun r w' => r = .returned (dAns R d).val ∧ Below w.heap.size w w' := by
  have HU := Lib.hid h
  by_cases ht : 0 ≤ d.till
  case pos =>
    have HB := Lib.hid (below_new (below_new (Below.refl w.heap.size w) (d.obj 33)) (d.obj 33))
    have e1 : decide (0 ≤ d.till) = true := decide_eq_true ht
    have HA : Hid (dAns R d = d) := if_pos ht
    clear ht h
    go_enter Try.func23, Try.ntmps23
    go_wp2_with fail
    rw [HA.out]
    exact bodyPost_ret (v := d.val) (by simp [results, Try.results23, go_sem]) rfl ⟨rfl, HB.out⟩
  case neg =>
    have e1 : decide (0 ≤ d.till) = false := decide_eq_false ht
    by_cases hk : d.kd = 1
    case neg =>
      have HB := Lib.hid (below_new (below_new (Below.refl w.heap.size w) (Dd.obj { d with ok := true, v := 0, lo := 0, hi := 0 } 33)) (Dd.obj { d with ok := true, v := 0, lo := 0, hi := 0 } 33))
      have p1 : (d.kd == 1) = false := beq_false_of_ne hk
      have HA : Hid (dAns R d = { d with ok := true, v := 0, lo := 0, hi := 0 }) := by
        show _ = _
        unfold dAns
        rw [if_neg ht, if_neg (fun h => hk h.1)]
      clear ht hk he h
      go_enter Try.func23, Try.ntmps23
      go_wp2_with fail
      rw [HA.out]
      exact bodyPost_ret (v := Dd.val { d with ok := true, v := 0, lo := 0, hi := 0 }) (by simp [results, Try.results23, go_sem]) rfl ⟨rfl, HB.out⟩
    case pos =>
      have p1 : (d.kd == 1) = true := beq_iff_eq.2 hk
      rcases Nat.eq_zero_or_pos R.length with h0 | hp
      case inl =>
        obtain rfl := List.eq_nil_of_length_eq_zero h0
        have HB := Lib.hid (below_new (below_new (Below.refl w.heap.size w) (Dd.obj { d with ok := true, v := 0, lo := 0, hi := 0 } 33)) (Dd.obj { d with ok := true, v := 0, lo := 0, hi := 0 } 33))
        have HA : Hid (dAns [] d = { d with ok := true, v := 0, lo := 0, hi := 0 }) := by
          show _ = _
          unfold dAns
          rw [if_neg ht, if_neg (fun h => h.2 rfl)]
        show Calls _ _ #[.slice a 0 cap, _] _ _
        clear ht hk he h h0
        go_enter Try.func23, Try.ntmps23
        go_wp2_with fail
        rw [HA.out]
        exact bodyPost_ret (v := Dd.val { d with ok := true, v := 0, lo := 0, hi := 0 }) (by simp [results, Try.results23, go_sem]) rfl ⟨rfl, HB.out⟩
      case inr =>
        have hne : R ≠ [] := List.length_pos_iff.1 hp
        obtain ⟨g, off, rfl, hg, hcell⟩ := h hp
        have c0 := hcell 0 hp
        rw [Nat.add_zero] at c0
        have cl := hcell (R.length - 1) (by omega)
        have HAS : Hid (dAns R d = { d with ok := true, v := stV R d.e, lo := 0, hi := 0 }) := by
          show _ = _
          unfold dAns
          rw [if_neg ht, stV_ans hk he]
        have hp' : (0 : Int) < (R.length : Int) := by omega
        rcases he with he | he
        case inl =>
          have hst : stV R d.e = R.getD 0 0 := by unfold stV; rw [if_neg hne, if_pos he]
          have p2 : (d.e == 1) = false := beq_false_of_ne (by omega)
          rw [hst] at HAS
          clear hst h ht hk he hcell cl HU hne
          generalize R.getD 0 0 = y at c0 HAS
          have HB := Lib.hid (below_new (below_new (Below.refl w.heap.size w) (Dd.obj { d with ok := true, v := y, lo := 0, hi := 0 } 33)) (Dd.obj { d with ok := true, v := y, lo := 0, hi := 0 } 33))
          rw [HAS.out]
          generalize R.length = ls at *
          go_enter Try.func23, Try.ntmps23
          go_wp2_with fail
          exact bodyPost_ret (v := Dd.val { d with ok := true, v := y, lo := 0, hi := 0 }) (by simp [results, Try.results23, go_sem]) rfl ⟨rfl, HB.out⟩
        case inr =>
          have hst : stV R d.e = R.getD (R.length - 1) 0 := by unfold stV; rw [if_neg hne, if_neg (by omega)]
          have p2 : (d.e == 1) = true := beq_iff_eq.2 he
          rw [hst] at HAS
          clear hst h ht hk he hcell HU hne
          generalize R.getD 0 0 = x at c0
          generalize R.getD (R.length - 1) 0 = y at cl HAS
          have HB := Lib.hid (below_new (below_new (Below.refl w.heap.size w) (Dd.obj { d with ok := true, v := y, lo := 0, hi := 0 } 33)) (Dd.obj { d with ok := true, v := y, lo := 0, hi := 0 } 33))
          rw [HAS.out]
          generalize R.length = ls at *
          go_enter Try.func23, Try.ntmps23
          go_wp2_with fail
          exact bodyPost_ret (v := Dd.val { d with ok := true, v := y, lo := 0, hi := 0 }) (by simp [results, Try.results23, go_sem]) rfl ⟨rfl, HB.out⟩

/-- Bools that can be read. -/
def IsB (w : World) (a : Option Addr) (S : List Bool) : Prop :=
  0 < S.length → ∃ g off, a = some ⟨g, off, none⟩ ∧ g < w.heap.size ∧ ∀ i, i < S.length → w.cell? ⟨g, off + i, none⟩ = some (.bool (S.getD i false))
theorem IsB.later {w w' : World} {a : Option Addr} {S : List Bool} (h : IsB w a S) (e : Below w.heap.size w w') : IsB w' a S := fun hp => by
  obtain ⟨g, off, h1, h2, h3⟩ := h hp
  exact ⟨g, off, h1, Nat.lt_of_lt_of_le h2 e.size, fun i hi => (e.cell (p := ⟨g, off + i, none⟩) h2).trans (h3 i hi)⟩
theorem IsB.toSrc {w : World} {a : Option Addr} {S : List Bool} (h : IsB w a S) : Src w 1 a S.length (S.map Value.bool) := by
  refine ⟨fun h0 => ?_, by rw [List.length_map, Nat.mul_one], fun ad had j u hj => ?_, fun u hu => by obtain ⟨x, _, rfl⟩ := List.mem_map.1 hu; rfl⟩
  · rcases Nat.eq_zero_or_pos S.length with h1 | h1
    · exact h1
    · obtain ⟨g, off, h2, _⟩ := h h1
      rw [h0] at h2
      cases h2
  · have hj2 := (List.getElem?_eq_some_iff.1 hj).1
    rw [List.length_map] at hj2
    obtain ⟨g, off, h2, _, h3⟩ := h (by omega)
    rw [had] at h2
    cases h2
    rw [List.getElem?_map] at hj
    obtain ⟨x, hx, rfl⟩ := Option.map_eq_some_iff.1 hj
    rw [addr_add', h3 j hj2, List.getD_eq_getElem?_getD, hx]
    rfl
theorem IsB.own {w : World} {base n cap : Nat} {A : Option Addr} {S : List Bool} (h : w.ownsRow base 4 1 (.slice A n cap) n (S.map Value.bool)) : IsB w A S ∧ n = S.length ∧ n ≤ cap := by
  have hl := h.1
  rw [List.length_map, Nat.mul_one] at hl
  refine ⟨fun hp => ?_, hl.symm, ?_⟩
  · obtain ⟨g, cp, hv, _, hg⟩ := row_shape h (by omega)
    cases hv
    exact ⟨g, 0, rfl, hg, fun i hi => by rw [Nat.zero_add]; exact row_bool h (by omega)⟩
  · rcases Nat.eq_zero_or_pos n with h0 | h0
    · omega
    · obtain ⟨g, cp, hv, hc, _⟩ := row_shape h h0
      cases hv
      exact hc

theorem now_facts {w5 w6 : World} {v6 : Value} {S : List Bool} {k i1 : Nat} (h0 : (w5.alloc (.cells #[] 4)).ownsRow w5.heap.size 4 1 (.slice (some ⟨w5.heap.size, 0, none⟩) 0 0) 0 []) (hG : Grew (w5.alloc (.cells #[] 4)) w6 w5.heap.size 4 1 (.slice (some ⟨w5.heap.size, 0, none⟩) 0 0) v6 (0 + k) ([] ++ S.map Value.bool)) (hk : i1 < k) :
    ∃ g6 k6, v6 = .slice (some ⟨g6, 0, none⟩) k k6 ∧ w6.cell? ⟨g6, i1, none⟩ = some (.bool (S.getD i1 false)) ∧ w6.frozen? ⟨g6, i1, none⟩ = false ∧ Hid (Below w5.heap.size w5 (w6.setCell ⟨g6, i1, none⟩ (.bool true))) ∧ Hid (IsB (w6.setCell ⟨g6, i1, none⟩ (.bool true)) (some ⟨g6, 0, none⟩) (S.set i1 true) ∧ k = (S.set i1 true).length ∧ k ≤ k6) := by
  have hown : w6.ownsRow w5.heap.size 4 1 v6 k (S.map Value.bool) := by have := hG.own; rwa [Nat.zero_add, List.nil_append] at this
  have hbl := below_new (Below.refl w5.heap.size w5) (.cells #[] 4)
  have hb6 : Below w5.heap.size w5 w6 := below_keep hbl (Keep.of_grown (T := fun q => w5.heap.size ≤ q) hG.grown (fun q hq => (h0.lt q hq).1)) hbl.size (fun i hi => hi)
  obtain ⟨g6, k6, rfl, hk6, hg6⟩ := row_shape hown (by omega)
  have hown7 := (hown.stored i1 (.bool true)).1
  rw [← List.map_set] at hown7
  exact ⟨g6, k6, rfl, row_bool hown hk, hown.frozenAt i1, below_set hb6 (p := ⟨g6, i1, none⟩) (hown.lt g6 rfl).1 (.bool true), IsB.own hown7⟩

def SomeC (l : List Dd) (W : World) (a0 : Option Addr) (n cap0 m : Nat) : Prop :=
  ∀ (w : World) (ab : Option Addr) (capb : Nat) (S : List Bool) (a : Option Addr) (cap : Nat) (R : List Int) (bb : Bool), Below W.heap.size W w → S.countP id + m = n → S.length = n → n ≤ capb → R.length ≤ S.countP id → R.length ≤ cap → IsB w ab S → IsU w a R → (bb = true ↔ ∃ s, Lin l (inS S) R s) →
    Calls Try.prog 17 #[.slice a0 n cap0, .slice ab n capb, .slice a R.length cap] w fun r w' => r = .returned (.bool bb) ∧ Below w.heap.size w w'

set_option maxRecDepth 100000 in
set_option maxHeartbeats 8000000 in
theorem some_any (l : List Dd) (W : World) (a0 : Option Addr) (n cap0 tb off : Nat) (hl : IsDds W a0 n cap0 tb off l) (hn : n ≤ 1000) (he : ∀ d ∈ l, d.e = 0 ∨ d.e = 1) (m : Nat) : SomeC l W a0 n cap0 m := by
  induction m using Nat.strongRecOn with
  | _ m IH =>
  intro w ab capb S a cap R bb hWw hom hSl hcb hRO hcap hB hU hbb
  have HL := Lib.hid hl
  have HI := Lib.hid IH
  have HE := Lib.hid he
  have HWW := Lib.hid hWw
  have HB := Lib.hid hB
  have HU := Lib.hid hU
  have HBB := Lib.hid hbb
  have HSL := Lib.hid hSl
  have hcp := hl.2.1
  have HHB : Hid (∀ w', Below w.heap.size w w' → ∀ i, i < n → ∃ g o, ab = some ⟨g, o, none⟩ ∧ g < w'.heap.size ∧ w'.cell? ⟨g, o + i, none⟩ = some (.bool (S.getD i false))) := fun w' hb' i hi => by
    obtain ⟨g, o, h1, h2, h3⟩ := (HB.out.later hb') (by rw [HSL.out]; omega)
    exact ⟨g, o, h1, h2, h3 i (by rw [HSL.out]; exact hi)⟩
  clear hl IH he hWw hB hU hbb hSl
  go_enter Try.func17, Try.ntmps17
  go_wp2_with fail
  have HB0 := Lib.hid (Below.refl w.heap.size w)
  go_loopw [7, 20] (fun ov iw wr => ∃ (i : Nat) (y : Bool), i ≤ n ∧ ov = .bool y ∧ iw = .int .i64 i ∧ Hid (Below w.heap.size w wr) ∧ Hid (y = true ↔ ∀ (j : Nat) (d : Dd), j < i → l[j]? = some d → 0 ≤ d.till → inS S j)) (fun _ iw _ => n - (RowKit.intOf iw).toNat)
  case atStart => exact ⟨0, true, Nat.zero_le _, rfl, rfl, HB0, ⟨fun _ j d hj => absurd hj (Nat.not_lt_zero _), fun _ => rfl⟩⟩
  case round =>
    clear HB0
    obtain ⟨i, y, hi, rfl, rfl, HBw, HY⟩ := hrel
    rcases Nat.lt_or_ge i n with hil | hil
    · have hil' : (i : Int) < (n : Int) := by omega
      obtain ⟨d, hd⟩ : ∃ d, l[i]? = some d := ⟨_, List.getElem?_eq_getElem (by rw [HL.out.1]; exact hil)⟩
      obtain ⟨rfl, htb⟩ := HL.out.2.2.1 (by omega)
      obtain ⟨d0, d1, d2, d3, d4, d5, d6, d7, d8, d9, d10⟩ := ((HL.out.later (HWW.out.trans (HBw.out.mono HWW.out.size)) (fun _ => htb)).2.2.2 i d hd).1
      obtain ⟨g, o, rfl, hg, cb⟩ := HHB.out _ HBw.out i hil
      have HBN := Lib.hid (below_new HBw.out (d.obj 33))
      have HD := Lib.hid hd
      have HSTEP : Hid (∀ z : Bool, (z = true ↔ (y = true ∧ (inS S i ∨ d.till < 0))) → (z = true ↔ ∀ (j : Nat) (e : Dd), j < i + 1 → l[j]? = some e → 0 ≤ e.till → inS S j)) := fun z hz => by
        rw [hz, HY.out]
        constructor
        · rintro ⟨h1, h2⟩ j e hj he ht
          rcases (by omega : j < i ∨ j = i) with hj | rfl
          · exact h1 j e hj he ht
          · rw [HD.out] at he
            cases he
            exact h2.resolve_right (by omega)
        · intro h
          refine ⟨fun j e hj => h j e (by omega), ?_⟩
          rcases (by omega : d.till < 0 ∨ 0 ≤ d.till) with ht | ht
          · exact .inr ht
          · exact .inl (h i d (by omega) HD.out ht)
      clear hd
      cases y
      case false =>
        go_wp2_with fail
        go_roundw
        case rel => exact ⟨i + 1, false, by omega, rfl, by go_num, HBN, HSTEP.out false ⟨fun h => Bool.noConfusion h, fun h => Bool.noConfusion h.1⟩⟩
        case measure => first | omega | (simp [RowKit.intOf]; done) | (simp [RowKit.intOf]; omega)
      case true =>
        cases hs : S.getD i false
        case true =>
          rw [hs] at cb
          have HS := Lib.hid hs
          clear hs
          go_wp2_with fail
          go_roundw
          case rel => exact ⟨i + 1, true, by omega, rfl, by go_num, HBN, HSTEP.out true ⟨fun _ => ⟨rfl, .inl HS.out⟩, fun _ => rfl⟩⟩
          case measure => first | omega | (simp [RowKit.intOf]; done) | (simp [RowKit.intOf]; omega)
        case false =>
          rw [hs] at cb
          have HS := Lib.hid hs
          clear hs
          by_cases ht : d.till < 0
          case pos =>
            have e1 : decide (d.till < 0) = true := decide_eq_true ht
            have HT := Lib.hid ht
            clear ht
            go_wp2_with fail
            go_roundw
            case rel => exact ⟨i + 1, true, by omega, rfl, by go_num, HBN, HSTEP.out true ⟨fun _ => ⟨rfl, .inr HT.out⟩, fun _ => rfl⟩⟩
            case measure => first | omega | (simp [RowKit.intOf]; done) | (simp [RowKit.intOf]; omega)
          case neg =>
            have e1 : decide (d.till < 0) = false := decide_eq_false ht
            have HT := Lib.hid ht
            clear ht
            go_wp2_with fail
            go_roundw
            case rel => exact ⟨i + 1, false, by omega, rfl, by go_num, HBN, HSTEP.out false ⟨fun h => Bool.noConfusion h, fun h => by
              rcases h.2 with h2 | h2
              · unfold inS at h2
                rw [HS.out] at h2
                cases h2
              · exact absurd h2 HT.out⟩⟩
            case measure => first | omega | (simp [RowKit.intOf]; done) | (simp [RowKit.intOf]; omega)
    · obtain rfl : i = n := by omega
      have hnl : ¬ (i : Int) < (i : Int) := by omega
      have HALL : Hid (y = true ↔ ∀ (j : Nat) (d : Dd), l[j]? = some d → 0 ≤ d.till → inS S j) := ⟨fun h j d hd => HY.out.1 h j d (by have := (List.getElem?_eq_some_iff.1 hd).1; have := HL.out.1; omega) hd, fun h => HY.out.2 (fun j d _ hd => h j d hd)⟩
      clear HY
      cases y
      case true =>
        obtain rfl : bb = true := HBB.out.2 ⟨[], .nil (HALL.out.1 (by first | exact rfl | trivial))⟩
        go_wp2_with fail
        go_ret
        exact ⟨rfl, HBw.out⟩
      case false =>
        have hnw : ¬ ∀ (j : Nat) (d : Dd), l[j]? = some d → 0 ≤ d.till → inS S j := fun h => by
          have := HALL.out.2 h
          first | exact Bool.noConfusion this | exact this
        have HW := Lib.hid hnw
        clear hnw HALL
        go_wp2_with fail
        have HB2 := Lib.hid HBw.out
        go_loopw [41] (fun iw wx => ∃ i1 : Nat, i1 ≤ i ∧ iw = .int .i64 i1 ∧ Hid (Below w.heap.size w wx) ∧ Hid (∀ j, j < i1 → NoB l S R j)) (fun iw _ => i - (RowKit.intOf iw).toNat)
        case atStart => exact ⟨0, Nat.zero_le _, rfl, HB2, fun j hj => absurd hj (Nat.not_lt_zero _)⟩
        case round =>
          clear HB2
          obtain ⟨i1, hi1, rfl, HBx, HP⟩ := hrel
          rcases Nat.lt_or_ge i1 i with hil | hil
          · have hil' : (i1 : Int) < (i : Int) := by omega
            obtain ⟨d, hd⟩ : ∃ d, l[i1]? = some d := ⟨_, List.getElem?_eq_getElem (by rw [HL.out.1]; exact hil)⟩
            obtain ⟨rfl, htb⟩ := HL.out.2.2.1 (by omega)
            obtain ⟨d0, d1, d2, d3, d4, d5, d6, d7, d8, d9, d10⟩ := ((HL.out.later (HWW.out.trans (HBx.out.mono HWW.out.size)) (fun _ => htb)).2.2.2 i1 d hd).1
            obtain ⟨g, o, rfl, hg, cb⟩ := HHB.out _ HBx.out i1 hil
            have HBN := Lib.hid (below_new HBx.out (d.obj 33))
            have HDB := Lib.hid (AtBd.made wr d 33)
            have HD := Lib.hid hd
            have hde := HE.out d (List.mem_of_getElem? hd)
            have HDE := Lib.hid hde
            obtain ⟨y0, hy0⟩ : ∃ y0, S.getD i1 false = y0 := ⟨_, rfl⟩
            have HY0 := Lib.hid hy0
            rw [hy0] at cb
            clear hd hde hy0
            go_wp2_with fail
            have HBI0 := Lib.hid HBN.out
            have HDI0 := Lib.hid HDB.out
            have HFI0 : Hid ((!y0) = true ↔ (¬ inS S i1 ∧ ∀ (k' : Nat) (o' : Dd), k' < 0 → l[k']? = some o' → inS S k' ∨ ¬ dBef o' d)) := by
              constructor
              · intro h
                refine ⟨fun hh => ?_, fun k' o' hk => absurd hk (Nat.not_lt_zero _)⟩
                unfold inS at hh
                rw [HY0.out] at hh
                rw [hh] at h
                cases h
              · rintro ⟨h, _⟩
                unfold inS at h
                rw [HY0.out] at h
                cases y0
                · rfl
                · exact absurd rfl h
            clear d0 d1 d2 d3 d4 d5 d6 d7 d8 d9 d10 cb HDB HBN hg
            generalize wr.heap.size = B at HDI0 ⊢
            go_loopw [12, 53] (fun fv kw wy => ∃ (k : Nat) (y : Bool), k ≤ i ∧ fv = .bool y ∧ kw = .int .i64 k ∧ Hid (Below w.heap.size w wy) ∧ Hid (AtBd wy B d) ∧ Hid (y = true ↔ (¬ inS S i1 ∧ ∀ (k' : Nat) (o' : Dd), k' < k → l[k']? = some o' → inS S k' ∨ ¬ dBef o' d))) (fun _ kw _ => i - (RowKit.intOf kw).toNat)
            case atStart => exact ⟨0, !y0, Nat.zero_le _, rfl, rfl, HBI0, HDI0, HFI0⟩
            case round =>
              clear HBI0 HDI0 HFI0
              obtain ⟨k, y, hk, rfl, rfl, HBI, HDI, HFI⟩ := hrel
              rcases Nat.lt_or_ge k i with hkl | hkl
              · have hkl' : (k : Int) < (i : Int) := by omega
                obtain ⟨od, hod⟩ : ∃ d, l[k]? = some d := ⟨_, List.getElem?_eq_getElem (by rw [HL.out.1]; exact hkl)⟩
                obtain ⟨f0, f1, f2, f3, f4, f5, f6, f7, f8, f9, f10⟩ := ((HL.out.later (HWW.out.trans (HBI.out.mono HWW.out.size)) (fun _ => htb)).2.2.2 k od hod).1
                obtain ⟨g2, o2, hgo, hg2, cb⟩ := HHB.out _ HBI.out k hkl
                cases hgo
                have hbn := below_new (Below.refl wr.heap.size wr) (od.obj 33)
                have HBN := Lib.hid (below_step HBI.out hbn)
                have HDN := Lib.hid (HDI.out.later hbn)
                have d5 := HDI.out.c5
                have hBl := HDI.out.lt
                have HOD := Lib.hid hod
                have HSTEP : Hid (∀ z : Bool, (z = true ↔ (y = true ∧ (inS S k ∨ ¬ dBef od d))) → (z = true ↔ (¬ inS S i1 ∧ ∀ (k' : Nat) (o' : Dd), k' < k + 1 → l[k']? = some o' → inS S k' ∨ ¬ dBef o' d))) := fun z hz => by
                  rw [hz, HFI.out]
                  constructor
                  · rintro ⟨⟨h1, h2⟩, h3⟩
                    refine ⟨h1, fun k' o' hk' ho' => ?_⟩
                    rcases (by omega : k' < k ∨ k' = k) with hk' | rfl
                    · exact h2 k' o' hk' ho'
                    · rw [HOD.out] at ho'
                      cases ho'
                      exact h3
                  · rintro ⟨h1, h2⟩
                    exact ⟨⟨h1, fun k' o' hk' => h2 k' o' (by omega)⟩, h2 k od (by omega) HOD.out⟩
                clear hod hbn
                cases y
                case false =>
                  go_wp2_with fail
                  go_roundw
                  case rel => exact ⟨k + 1, false, by omega, rfl, by go_num, HBN, HDN, HSTEP.out false ⟨fun h => Bool.noConfusion h, fun h => Bool.noConfusion h.1⟩⟩
                  case measure => first | omega | (simp [RowKit.intOf]; done) | (simp [RowKit.intOf]; omega)
                case true =>
                  cases hs : S.getD k false
                  case true =>
                    rw [hs] at cb
                    have HS := Lib.hid hs
                    clear hs
                    go_wp2_with fail
                    go_roundw
                    case rel => exact ⟨k + 1, true, by omega, rfl, by go_num, HBN, HDN, HSTEP.out true ⟨fun _ => ⟨rfl, .inl HS.out⟩, fun _ => rfl⟩⟩
                    case measure => first | omega | (simp [RowKit.intOf]; done) | (simp [RowKit.intOf]; omega)
                  case false =>
                    rw [hs] at cb
                    have HS := Lib.hid hs
                    clear hs
                    by_cases ht : od.till < 0
                    case pos =>
                      have e1 : decide (od.till < 0) = true := decide_eq_true ht
                      have HT := Lib.hid ht
                      clear ht
                      go_wp2_with fail
                      go_roundw
                      case rel => exact ⟨k + 1, true, by omega, rfl, by go_num, HBN, HDN, HSTEP.out true ⟨fun _ => ⟨rfl, .inr (fun h => by have := h.1; have := HT.out; omega)⟩, fun _ => rfl⟩⟩
                      case measure => first | omega | (simp [RowKit.intOf]; done) | (simp [RowKit.intOf]; omega)
                    case neg =>
                      have e1 : decide (od.till < 0) = false := decide_eq_false ht
                      have HT := Lib.hid ht
                      clear ht
                      by_cases hb : d.fr ≤ od.till
                      case pos =>
                        have e2 : decide (d.fr ≤ od.till) = true := decide_eq_true hb
                        have HT2 := Lib.hid hb
                        clear hb
                        go_wp2_with fail
                        go_roundw
                        case rel => exact ⟨k + 1, true, by omega, rfl, by go_num, HBN, HDN, HSTEP.out true ⟨fun _ => ⟨rfl, .inr (fun h => by have := h.2; have := HT2.out; omega)⟩, fun _ => rfl⟩⟩
                        case measure => first | omega | (simp [RowKit.intOf]; done) | (simp [RowKit.intOf]; omega)
                      case neg =>
                        have e2 : decide (d.fr ≤ od.till) = false := decide_eq_false hb
                        have HT2 := Lib.hid hb
                        clear hb
                        go_wp2_with fail
                        go_roundw
                        case rel => exact ⟨k + 1, false, by omega, rfl, by go_num, HBN, HDN, HSTEP.out false ⟨fun h => Bool.noConfusion h, fun h => by
                          rcases h.2 with h2 | h2
                          · unfold inS at h2
                            rw [HS.out] at h2
                            cases h2
                          · exact absurd ⟨by have := HT.out; omega, by have := HT2.out; omega⟩ h2⟩⟩
                        case measure => first | omega | (simp [RowKit.intOf]; done) | (simp [RowKit.intOf]; omega)
              · obtain rfl : k = i := by omega
                have hnk : ¬ (k : Int) < (k : Int) := by omega
                have HFR : Hid (y = true ↔ LFree l (inS S) i1 d) := ⟨fun h => ⟨(HFI.out.1 h).1, fun k' o' ho' => (HFI.out.1 h).2 k' o' (by have := (List.getElem?_eq_some_iff.1 ho').1; have := HL.out.1; omega) ho'⟩, fun h => HFI.out.2 ⟨h.1, fun k' o' _ ho' => h.2 k' o' ho'⟩⟩
                clear HFI
                cases y
                case false =>
                  have HNF : Hid (¬ LFree l (inS S) i1 d) := fun h => by
                    have := HFR.out.2 h
                    first | exact Bool.noConfusion this | exact this
                  clear HFR
                  go_wp2_with fail
                  go_roundw
                  case rel =>
                    refine ⟨i1 + 1, by omega, by go_num, HBI, fun j hj => ?_⟩
                    rcases (by omega : j < i1 ∨ j = i1) with hj | rfl
                    · exact HP.out j hj
                    · intro e r he hf
                      rw [HD.out] at he
                      cases he
                      exact absurd hf HNF.out
                  case measure => first | omega | (simp [RowKit.intOf]; done) | (simp [RowKit.intOf]; omega)
                case true =>
                  have HF : Hid (LFree l (inS S) i1 d) := HFR.out.1 (by first | exact rfl | trivial)
                  clear HFR
                  obtain ⟨d0, d1, d2, d3, d4, d5, d6, d7, d8, d9, d10⟩ := HDI.out
                  have HUI := Lib.hid (HU.out.later HBI.out)
                  go_wp2_with fail
                  refine (lanswered_any _ a cap R d HUI.out hcap (by omega) HDE.out).mono ?_
                  rintro r w4 ⟨rfl, hb4⟩
                  have HB4 := Lib.hid (below_step HBI.out hb4)
                  have HU4 := Lib.hid (HUI.out.later hb4)
                  clear hb4 d0 d1 d2 d3 d4 d5 d6 d7 d8 d9 d10
                  obtain ⟨dA, hdA⟩ : ∃ dA, dAns R d = dA := ⟨_, rfl⟩
                  have HDA := Lib.hid hdA
                  rw [hdA]
                  clear hdA
                  go_wp2_with fail
                  refine (ldo_any _ a cap R dA HU4.out hcap (by omega)).mono ?_
                  rintro r w5 ⟨hb5, a', n', c', ok, rfl, h1, h2⟩
                  have HB5 := Lib.hid (below_step HB4.out hb5)
                  cases hdo : dDo R dA
                  case none =>
                    obtain rfl := h2 hdo
                    have HO := Lib.hid hdo
                    clear h1 h2 hb5 hdo
                    go_wp2_with fail
                    go_roundw
                    case rel =>
                      refine ⟨i1 + 1, by omega, by go_num, HB5, fun j hj => ?_⟩
                      rcases (by omega : j < i1 ∨ j = i1) with hj | rfl
                      · exact HP.out j hj
                      · intro e r he hf hr
                        rw [HD.out] at he
                        cases he
                        rw [HDA.out, HO.out] at hr
                        cases hr
                    case measure => first | omega | (simp [RowKit.intOf]; done) | (simp [RowKit.intOf]; omega)
                  case some R' =>
                    obtain ⟨rfl, rfl, hnc, hU'⟩ := h1 R' hdo
                    have HO := Lib.hid hdo
                    have hRl := dDo_len hdo
                    have HU5 := Lib.hid hU'
                    have hbl := below_new (Below.refl w5.heap.size w5) (.cells #[] 4)
                    have HBL := Lib.hid hbl
                    have HSRC := Lib.hid ((HB.out.later (HB5.out)).later hbl).toSrc
                    rw [HSL.out] at HSRC
                    have HR0 : Hid ((w5.alloc (.cells #[] 4)).ownsRow w5.heap.size 4 1 (.slice (some ⟨w5.heap.size, 0, none⟩) 0 0) 0 []) := World.ownsRow_made (base := w5.heap.size) (e := 4) (size := 1) w5 #[] 0 (Nat.le_refl _) (by unfold maxLen; omega) (by simp)
                    clear h1 h2 hb5 hdo hU' hbl
                    go_wp2_with (at_builtin; refine list_append_grew rfl _ _ 44 rfl w5.heap.size 4 _ 1 1 elem_bool _ 0 [] rfl HR0.out _ k capb (S.map Value.bool) rfl HSRC.out (by unfold maxLen; omega) (by omega) HBL.out.size ?_; intro v6 w6 hG; obtain ⟨g6, k6, rfl, c1, z1, HB7, HIB⟩ := now_facts HR0.out hG hil; clear hG)
                    have hin : i1 < S.length := by rw [HSL.out]; exact hil
                    have hlt := cnt_lt hin HF.out.1
                    have hcs := cnt_set hin HF.out.1
                    have HCS := Lib.hid hcs
                    have HLT := Lib.hid hlt
                    clear hlt hcs HR0 HBL HSRC
                    obtain ⟨b7, hb7⟩ : ∃ b7 : Bool, b7 = true ↔ ∃ s, Lin l (inS (S.set i1 true)) R' s := by
                      by_cases hh : ∃ s, Lin l (inS (S.set i1 true)) R' s
                      · exact ⟨true, fun _ => hh, fun _ => rfl⟩
                      · exact ⟨false, fun h => Bool.noConfusion h, fun h => absurd h hh⟩
                    have HB7' := Lib.hid hb7
                    clear hb7
                    refine (HI.out (m - 1) (by have := HLT.out; have := HSL.out; omega) _ _ k6 (S.set i1 true) a' c' R' b7 ((HWW.out.trans (HB5.out.mono HWW.out.size)).trans (HB7.out.mono (Nat.le_trans HWW.out.size HB5.out.size))) (by have := HLT.out; have := HSL.out; have := HCS.out; omega) (by rw [List.length_set]; exact HSL.out) HIB.out.2.2 (by have := HCS.out; omega) hnc HIB.out.1 (HU5.out.later HB7.out) HB7'.out).mono ?_
                    rintro r w8 ⟨rfl, hb8⟩
                    have HB8 := Lib.hid (below_step HB5.out (below_step HB7.out hb8))
                    clear hb8
                    cases b7
                    case true =>
                      obtain rfl : bb = true := HBB.out.2 (lin_iff.2 (.inr ⟨i1, d, R', HD.out, HF.out, by rw [HDA.out]; exact HO.out, by
                        obtain ⟨s, hs⟩ := HB7'.out.1 (by first | exact rfl | trivial)
                        exact ⟨s, hs.same (fun q => inS_set (by rw [HSL.out]; exact hil) q)⟩⟩))
                      go_wp2_with fail
                      go_ret
                      exact ⟨rfl, HB8.out⟩
                    case false =>
                      have HNO : Hid (¬ ∃ s, Lin l (inS (S.set i1 true)) R' s) := fun h => by
                        have := HB7'.out.2 h
                        first | exact Bool.noConfusion this | exact this
                      clear HB7'
                      go_wp2_with fail
                      go_roundw
                      case rel =>
                        refine ⟨i1 + 1, by omega, by go_num, HB8, fun j hj => ?_⟩
                        rcases (by omega : j < i1 ∨ j = i1) with hj | rfl
                        · exact HP.out j hj
                        · intro e r he hf hr hh
                          rw [HD.out] at he
                          cases he
                          rw [HDA.out, HO.out] at hr
                          cases hr
                          obtain ⟨s, hs⟩ := hh
                          exact HNO.out ⟨s, hs.same (fun q => (inS_set (by rw [HSL.out]; exact hil) q).symm)⟩
                      case measure => first | omega | (simp [RowKit.intOf]; done) | (simp [RowKit.intOf]; omega)
          · obtain rfl : i1 = i := by omega
            have hnx : ¬ (i1 : Int) < (i1 : Int) := by omega
            obtain rfl : bb = false := by
              cases bb with
              | false => rfl
              | true =>
                exfalso
                rcases lin_iff.1 (HBB.out.1 rfl) with h | ⟨j, e, r, h1, h2, h3, h4⟩
                · exact HW.out h
                · exact HP.out j (by have := (List.getElem?_eq_some_iff.1 h1).1; have := HL.out.1; omega) e r h1 h2 h3 h4
            go_wp2_with fail
            go_ret
            exact ⟨rfl, HBx.out⟩
end Go.Proofs.Ytgoncakjkippkaa
