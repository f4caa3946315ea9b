/-
  The laws' own calls: what Do tells, which lists can be done, which calls are right. No condition but that rows and lists are no longer than 100000.
-/
import Derived.Test.YtgoncakjkippkabLinDo
namespace Go.Proofs.Ytgoncakjkippkab
open Go.RowKit
set_option linter.unusedVariables false

/-- .. and where it lies: where the row lay, or in a new block. -/
def DoT2 (w w' : World) (a0 : Option Addr) (r : Ending) (o : Option (List Int)) : Prop :=
  Below w.heap.size w w' ∧ ∃ a n c ok, r = .returned (.tuple #[.slice a n c, .bool ok]) ∧ (∀ R, o = some R → ok = true ∧ n = R.length ∧ n ≤ c ∧ IsU w' a R) ∧ (o = none → ok = false) ∧ (ok = true → ∀ k off, a = some ⟨k, off, none⟩ → (∃ off', a0 = some ⟨k, off', none⟩) ∨ w.heap.size ≤ k)
theorem DoT2.to {w w' : World} {a0 : Option Addr} {r : Ending} {o : Option (List Int)} (h : DoT2 w w' a0 r o) : DoTo w w' r o := by
  obtain ⟨h0, a, n, c, ok, h1, h2, h3, _⟩ := h
  exact ⟨h0, a, n, c, ok, h1, h2, h3⟩
theorem doTo_some {w w' : World} {a0 a : Option Addr} {c : Nat} {R : List Int} {o : Option (List Int)} {n : Nat} (hb : Below w.heap.size w w') (ho : o = some R) (hn : n = R.length) (hc : n ≤ c) (hu : IsU w' a R) (hf : ∀ k off, a = some ⟨k, off, none⟩ → (∃ off', a0 = some ⟨k, off', none⟩) ∨ w.heap.size ≤ k) : DoT2 w w' a0 (.returned (.tuple #[.slice a n c, .bool true])) o := by
  refine ⟨hb, a, n, c, true, rfl, fun R' h => ?_, fun h => ?_, fun _ => hf⟩
  · rw [ho] at h
    cases h
    exact ⟨rfl, hn, hc, hu⟩
  · rw [ho] at h
    cases h
theorem doTo_none {w w' : World} {a0 a : Option Addr} {n c : Nat} {o : Option (List Int)} (hb : Below w.heap.size w w') (ho : o = none) : DoT2 w w' a0 (.returned (.tuple #[.slice a n c, .bool false])) o := by
  refine ⟨hb, a, n, c, false, rfl, fun R' h => ?_, (fun _ => rfl), fun h => Bool.noConfusion h⟩
  rw [ho] at h
  cases h

theorem IsU.own {w : World} {base n cap : Nat} {A : Option Addr} {R : List Int} (h : w.ownsRow base 28 1 (.slice A n cap) n (R.map u64)) : IsU w A R ∧ n = R.length ∧ n ≤ cap := by
  have hl := h.1
  rw [List.length_map, Nat.mul_one] at hl
  refine ⟨fun hp => ?_, hl.symm, ?_⟩
  · obtain ⟨g, cp, hv, _, hg⟩ := row_shape h (by omega)
    cases hv
    exact ⟨g, 0, rfl, hg, fun i hi => by rw [Nat.zero_add]; exact row_at (k := .u64) h (by omega)⟩
  · rcases Nat.eq_zero_or_pos n with h0 | h0
    · omega
    · obtain ⟨g, cp, hv, hc, _⟩ := row_shape h h0
      cases hv
      exact hc
theorem IsU.toSrc {w : World} {a : Option Addr} {R : List Int} (h : IsU w a R) : Src w 1 a R.length (R.map u64) := by
  refine ⟨fun h0 => ?_, by rw [List.length_map, Nat.mul_one], fun ad had j u hj => ?_, fun u hu => by obtain ⟨x, _, rfl⟩ := List.mem_map.1 hu; rfl⟩
  · rcases Nat.eq_zero_or_pos R.length with h1 | h1
    · exact h1
    · obtain ⟨g, off, h2, _⟩ := h h1
      rw [h0] at h2
      cases h2
  · have hp : 0 < R.length := by
      have := (List.getElem?_eq_some_iff.1 hj).1
      rw [List.length_map] at this
      omega
    obtain ⟨ad', h1, h2⟩ := h.src hp
    rw [had] at h1
    cases h1
    exact h2 j u hj
theorem row_one (w : World) (x : Int) (base : Nat) (hb : base ≤ w.heap.size) : (w.alloc (.cells #[.int .u64 x] 28)).ownsRow base 28 1 (.slice (some ⟨w.heap.size, 0, none⟩) 1 1) 1 [u64 x] :=
  row_own' (L := [u64 x]) (heap_alloc_new w _) rfl hb (by unfold maxLen; omega)
theorem ap1 {base g c n : Nat} {W1 w4 : World} {v1 : Value} {xs : List Value} (hG : Grew W1 w4 base 28 1 (.slice (some ⟨g, 0, none⟩) 0 c) v1 n xs) (p : Addr) (u : Value) (hp : p.block ≠ g) (hc : W1.cell? p = some u) : w4.cell? p = some u :=
  hG.grown.cell hc (fun h => hp (Option.some.inj h))
theorem src1_at {W : World} {b : Nat} {x : Int} (h : W.cell? ⟨b, 0, none⟩ = some (u64 x)) : Src W 1 (some ⟨b, 0, none⟩) 1 [u64 x] :=
  ⟨(fun h => by cases h), rfl, fun ad had j u hj => by
    cases had
    rw [addr_add', Nat.zero_add]
    have hj1 := (List.getElem?_eq_some_iff.1 hj).1
    obtain rfl : j = 0 := by simp at hj1; omega
    cases hj
    exact h, one_int .u64 x⟩
theorem src1_new (W : World) (x : Int) (ty : TypeId) : Src (W.alloc (.cells #[.int .u64 x] ty)) 1 (some ⟨W.heap.size, 0, none⟩) 1 [u64 x] := src1_at (by simp)
theorem own_new {W : World} {base n : Nat} {v : Value} {xs : List Value} (o : Obj) (h : W.ownsRow base 28 1 v n xs) : (W.alloc o).ownsRow base 28 1 v n xs :=
  (Keep.of_below (T := fun _ => False) (below_new (Below.refl _ _) _)).row h (fun _ _ h => h)
theorem mk0 {W : World} {g base : Nat} (hg : W.heap.size = g) (hb : base ≤ g) : (W.alloc (.cells #[] 28)).ownsRow base 28 1 (.slice (some ⟨g, 0, none⟩) 0 0) 0 [] := by
  subst hg
  exact World.ownsRow_made (base := base) (e := 28) (size := 1) W #[] 0 hb (by unfold maxLen; omega) (by simp)
theorem own_zero {w4 : World} {base : Nat} {v : Value} {R : List Int} (h : w4.ownsRow base 28 1 v (0 + R.length) ([] ++ R.map u64)) : ∃ A c, v = .slice A R.length c ∧ w4.ownsRow base 28 1 (.slice A R.length c) R.length (R.map u64) := by
  rw [Nat.zero_add, List.nil_append] at h
  obtain ⟨A, c, rfl⟩ := own_shape h
  exact ⟨A, c, rfl, h⟩
theorem own_last {w4 : World} {base n : Nat} {v : Value} {R : List Int} {x : Int} (h : w4.ownsRow base 28 1 v n (R.map u64 ++ [u64 x])) : ∃ A c, v = .slice A n c ∧ IsU w4 A (R ++ [x]) ∧ n = (R ++ [x]).length ∧ n ≤ c ∧ ∀ k off, A = some ⟨k, off, none⟩ → base ≤ k := by
  obtain ⟨A, c, rfl⟩ := own_shape h
  have h' : w4.ownsRow base 28 1 (.slice A n c) n ((R ++ [x]).map u64) := by rw [List.map_append]; exact h
  obtain ⟨h1, h2, h3⟩ := IsU.own h'
  exact ⟨A, c, rfl, h1, h2, h3, fun k off hk => by subst hk; exact (h'.lt k rfl).1⟩
theorem grew_below {w W w4 : World} {v v' : Value} {n m : Nat} {xs ys : List Value} (hb : Below w.heap.size w W) (ho : W.ownsRow w.heap.size 28 1 v m ys) (hG : Grew W w4 w.heap.size 28 1 v v' n xs) : Below w.heap.size w w4 :=
  below_keep hb (Keep.of_grown (T := fun k => w.heap.size ≤ k) hG.grown (fun k hk => (ho.lt k hk).1)) hb.size (fun i hi => hi)

set_option maxHeartbeats 4000000 in
theorem ldo2_any (w : World) (a : Option Addr) (cap : Nat) (R : List Int) (d : Dd) (h : IsU w a R) (hc : R.length ≤ cap) (hn : R.length ≤ 900000) :
    Calls Try.prog 22 #[.slice a R.length cap, d.val] w fun r w' => DoT2 w w' a r (dDo R d) := by
  have HU := Lib.hid h
  clear h
  obtain ⟨who, kd, e, x, st, fr, till, ok, v, lo, hi⟩ := d
  have HB := Lib.hid (below_new (Below.refl w.heap.size w) (Dd.obj ⟨who, kd, e, x, st, fr, till, ok, v, lo, hi⟩ 38))
  by_cases hk : kd = 0
  case pos =>
    subst hk
    cases ok
    case false =>
      have HD : Hid (dDo R ⟨who, 0, e, x, st, fr, till, false, v, lo, hi⟩ = _) := dDo_pn (row := R) rfl rfl
      go_enter Try.func22, Try.ntmps22
      go_wp2_with fail
      go_ret2
      exact doTo_some HB.out HD.out rfl hc (HU.out.later HB.out) (fun k off h => .inl ⟨off, h⟩)
    case true =>
      have HD : Hid (dDo R ⟨who, 0, e, x, st, fr, till, true, v, lo, hi⟩ = _) := dDo_p (row := R) rfl rfl
      by_cases he : e = 0
      case pos =>
        subst he
        have HBX := Lib.hid (below_new HB.out (.cells #[.int .u64 x] 28))
        have hro := row_one (w.alloc (Dd.obj ⟨who, 0, 0, x, st, fr, till, true, v, lo, hi⟩ 38)) x w.heap.size HB.out.size
        rw [World.size_alloc] at hro
        have HRO := Lib.hid hro
        clear hro
        have HSRC := Lib.hid (HU.out.later HBX.out).toSrc
        go_enter Try.func22, Try.ntmps22
        go_wp2_with (at_builtin; refine list_append_grew rfl _ _ 27 rfl w.heap.size 28 _ 1 8 elem_u64 _ 1 [u64 x] rfl HRO.out a R.length cap (R.map u64) rfl HSRC.out (by unfold maxLen; omega) (by omega) HBX.out.size ?_; intro v' w4 hG)
        obtain ⟨A, cp, rfl⟩ := own_shape hG.own
        have HB4 := Lib.hid (grew_below HBX.out HRO.out hG)
        have HUO := Lib.hid (show (IsU w4 A (x :: R) ∧ _ ∧ _) ∧ ∀ k off, A = some ⟨k, off, none⟩ → w.heap.size ≤ k from ⟨IsU.own (R := x :: R) hG.own, fun k off h => by subst h; exact (hG.own.lt k rfl).1⟩)
        clear hG
        go_wp2_with fail
        go_ret2
        exact doTo_some HB4.out HD.out HUO.out.1.2.1 HUO.out.1.2.2 HUO.out.1.1 (fun k off h => .inr (HUO.out.2 k off h))
      case neg =>
        have p2 : (e == 0) = false := beq_false_of_ne he
        rw [if_neg he] at HD
        clear he
        have HSRC := Lib.hid (fun (W' : World) (hb : Below w.heap.size w W') => (HU.out.later hb).toSrc)
        go_enter Try.func22, Try.ntmps22
        go_wp2_with fail
        go_region_law (first
          | (refine step_append_grew rfl _ _ 27 rfl w.heap.size 28 _ 1 8 elem_u64 (.slice (some ⟨_, 0, none⟩) 0 0) 0 [] rfl ?_ a R.length cap (R.map u64) rfl ?_ (by unfold maxLen; omega) (by omega) ?_ ?_; (focus (first | exact mk0 (by simp) (by omega) | exact own_new _ (mk0 (by simp) (by omega)))); (focus exact HSRC.out _ (by repeat (first | exact Below.refl _ _ | refine below_new ?_ _ | refine Below.drew ?_))); (focus (simp; omega)); intro v1 w4 hG1; have hK1 := ap1 hG1; have c3' := hK1 ⟨w.heap.size, 3, none⟩ (u64 x) (by simp <;> omega) (by simp [go_sem]); replace hK1 := Lib.hid hK1; have hB4 := grew_below (by repeat (first | exact Below.refl _ _ | refine below_new ?_ _ | refine Below.drew ?_)) (by first | exact mk0 (by simp) (by omega) | exact own_new _ (mk0 (by simp) (by omega))) hG1; replace hB4 := Lib.hid hB4; obtain ⟨A1, cp1, rfl, hO1⟩ := own_zero hG1.own; replace hO1 := Lib.hid hO1; clear hG1)
          | (refine step_append_grew rfl _ _ 27 rfl w.heap.size 28 _ 1 8 elem_u64 (.slice A1 R.length cp1) R.length (R.map u64) rfl ?_ (some ⟨_, 0, none⟩) 1 1 [u64 x] rfl ?_ (by unfold maxLen; omega) (by omega) ?_ ?_; (focus (first | exact hO1.out | exact own_new _ hO1.out)); (focus (first | exact src1_new _ _ _ | exact src1_at (hK1.out _ _ (by simp <;> omega) (by simp [go_sem])))); (focus (have := hB4.out.size; first | exact this | (simp; omega))); intro v2 w5 hG2; have hB5 := Lib.hid (grew_below (by first | exact hB4.out | exact below_new hB4.out _) (by first | exact hO1.out | exact own_new _ hO1.out) hG2); obtain ⟨A2, cp2, rfl, hU2⟩ := own_last hG2.own; replace hU2 := Lib.hid hU2; clear hG2))
        all_goals
          go_wp2
          go_ret2
          exact doTo_some hB5.out HD.out hU2.out.2.1 hU2.out.2.2.1 hU2.out.1 (fun k off h => .inr (hU2.out.2.2.2 k off h))
  case neg =>
    have p1 : (kd == 0) = false := beq_false_of_ne hk
    cases ok
    case false =>
      have HD : Hid (dDo R ⟨who, kd, e, x, st, fr, till, false, v, lo, hi⟩ = _) := dDo_gn (row := R) hk rfl
      clear hk
      by_cases hr : R.length = 0
      case pos =>
        obtain rfl := List.eq_nil_of_length_eq_zero hr
        show Calls _ _ #[.slice a 0 cap, _] _ _
        clear hr
        go_enter Try.func22, Try.ntmps22
        go_wp2_with fail
        go_ret2
        exact doTo_some HB.out HD.out rfl (Nat.zero_le _) (HU.out.later HB.out) (fun k off h => .inl ⟨off, h⟩)
      case neg =>
        have p2 : ((R.length : Int) == 0) = false := beq_false_of_ne (by omega)
        have HN := Lib.hid hr
        clear hr
        go_enter Try.func22, Try.ntmps22
        go_wp2_with fail
        go_ret2
        exact doTo_none HB.out (HD.out.trans (if_neg (fun h => HN.out (by rw [h]; rfl))))
    case true =>
      rcases Nat.eq_zero_or_pos R.length with hr | hr
      case inl =>
        obtain rfl := List.eq_nil_of_length_eq_zero hr
        show Calls _ _ #[.slice a 0 cap, _] _ _
        have HD : Hid (dDo [] ⟨who, kd, e, x, st, fr, till, true, v, lo, hi⟩ = none) := dDo_g0 hk rfl (fun h => h.1 rfl)
        clear hr hk
        go_enter Try.func22, Try.ntmps22
        go_wp2_with fail
        go_ret2
        exact doTo_none HB.out HD.out
      case inr =>
        have hne : R ≠ [] := List.length_pos_iff.1 hr
        obtain ⟨g, off, rfl, hg, hcell⟩ := HU.out hr
        have hB0 := HB.out
        have c0 := (hB0.cell (p := ⟨g, off, none⟩) hg).trans (hcell 0 hr)
        have cl := (hB0.cell (p := ⟨g, off + (R.length - 1), none⟩) hg).trans (hcell (R.length - 1) (by omega))
        have p2 : ((R.length : Int) == 0) = false := beq_false_of_ne (by omega)
        have q1 : (1 : Int) ≤ (R.length : Int) := by omega
        have HR := Lib.hid hne
        have HK := Lib.hid hk
        have HX := Lib.hid hr
        have HC := Lib.hid hc
        have HO := Lib.hid (fun (h : R ≠ [] ∧ stV R e = v) => dDo_g (d := ⟨who, kd, e, x, st, fr, till, true, v, lo, hi⟩) hk rfl h)
        have HOO := Lib.hid (fun (h : ¬ (R ≠ [] ∧ stV R e = v)) => dDo_g0 (d := ⟨who, kd, e, x, st, fr, till, true, v, lo, hi⟩) hk rfl h)
        have q0 : (0 : Int) < (R.length : Int) := by omega
        clear hcell hne hk hB0
        by_cases he : e = 0
        case pos =>
          subst he
          have hst : stV R 0 = R.getD 0 0 := by unfold stV; rw [if_neg HR.out, if_pos rfl]
          have HST := Lib.hid hst
          have HF : Hid (∀ (b : Bool) (w' : World), Below w.heap.size w w' → (b = true ↔ R.getD 0 0 = v) → ∀ A c', ((A = some ⟨g, off + 1, none⟩ ∧ c' = cap - 1) ∨ (cap = 1 ∧ A = some ⟨g, off, none⟩)) → DoT2 w w' (some ⟨g, off, none⟩) (.returned (.tuple #[.slice A (R.length - 1) c', .bool b])) (dDo R ⟨who, kd, 0, x, st, fr, till, true, v, lo, hi⟩)) := fun b w' hb' hbv A c' hA => by
            cases b with
            | false => exact doTo_none hb' (HOO.out (fun h => Bool.noConfusion (hbv.2 (HST.out.symm.trans h.2))))
            | true =>
              refine doTo_some (R := R.drop 1) hb' (HO.out ⟨HR.out, HST.out.trans (hbv.1 rfl)⟩) (by rw [List.length_drop]) (by have := HC.out; omega) ?_ (fun k o h => by rcases hA with ⟨rfl, _⟩ | ⟨_, rfl⟩ <;> (cases h; exact .inl ⟨_, rfl⟩))
              rcases hA with ⟨rfl, rfl⟩ | ⟨hA, _⟩
              · exact IsU.tail (HU.out.later hb')
              · rw [List.drop_of_length_le (by have := HC.out; omega)]
                exact IsU.nil _ _
          clear hst cl HO HOO HST HU
          generalize R.getD 0 0 = y at c0 HF
          generalize R.length = ls at *
          by_cases hyv : y = v
          case pos =>
            subst hyv
            go_enter Try.func22, Try.ntmps22
            go_wp2_with fail
            refine wp_region_seq ((0, true) :: (1, true) :: (2, true) :: (3, true) :: (4, true) :: (5, true) :: (6, true) :: (7, true) :: (8, true) :: (9, true) :: (10, true) :: []) (by kernel_rfl) (by kernel_rfl) (by kernel_rfl) (by decide) (fun _ _ _ _ _ h => h) (fun hHeld => ?_)
            repeat (first
              | (refine seq_take (v := ?_) rfl ?_ ?_ ?_; rotate_left 1; rfl; (focus (intro wS hSw; have hk := below_rule hSw; go_simp; first | done | with_reducible rfl)); (try simp only [Act.put, List.setIfInBounds_toArray, List.set_cons_zero, List.set_cons_succ]))
              | (refine seq_skip rfl ?_ ?_; rfl; (try simp only [Act.put, List.setIfInBounds_toArray, List.set_cons_zero, List.set_cons_succ]))
              | (refine seq_run rfl (fun K hK => ?_); go_simp; (try skip); (try go_wp2_with fail); refine hK.out _ _ ?_ ?_; (focus (first | exact below_step hHeld hb' | exact below_new hHeld _ | exact hHeld)); (try clear hb'); clear hHeld hK K; intro hHeld; (try simp only [Act.put, List.setIfInBounds_toArray, List.set_cons_zero, List.set_cons_succ])))
            first | refine seq_done ?_ | skip
            all_goals
              have HB2 := Lib.hid (below_step HB.out hHeld)
              clear hHeld
              go_wp2_with fail
              all_goals
                go_ret2
                refine HF.out true _ HB2.out (by first | exact ⟨fun _ => rfl, fun _ => rfl⟩ | simp) _ _ ?_
                first | exact .inl ⟨rfl, rfl⟩ | exact .inr ⟨by omega, rfl⟩
          case neg =>
            have e3 : (y == v) = false := beq_false_of_ne hyv
            have HYV := Lib.hid hyv
            clear hyv
            go_enter Try.func22, Try.ntmps22
            go_wp2_with fail
            refine wp_region_seq ((0, true) :: (1, true) :: (2, true) :: (3, true) :: (4, true) :: (5, true) :: (6, true) :: (7, true) :: (8, true) :: (9, true) :: (10, true) :: []) (by kernel_rfl) (by kernel_rfl) (by kernel_rfl) (by decide) (fun _ _ _ _ _ h => h) (fun hHeld => ?_)
            repeat (first
              | (refine seq_take (v := ?_) rfl ?_ ?_ ?_; rotate_left 1; rfl; (focus (intro wS hSw; have hk := below_rule hSw; go_simp; first | done | with_reducible rfl)); (try simp only [Act.put, List.setIfInBounds_toArray, List.set_cons_zero, List.set_cons_succ]))
              | (refine seq_skip rfl ?_ ?_; rfl; (try simp only [Act.put, List.setIfInBounds_toArray, List.set_cons_zero, List.set_cons_succ]))
              | (refine seq_run rfl (fun K hK => ?_); go_simp; (try skip); (try go_wp2_with fail); refine hK.out _ _ ?_ ?_; (focus (first | exact below_step hHeld hb' | exact below_new hHeld _ | exact hHeld)); (try clear hb'); clear hHeld hK K; intro hHeld; (try simp only [Act.put, List.setIfInBounds_toArray, List.set_cons_zero, List.set_cons_succ])))
            first | refine seq_done ?_ | skip
            all_goals
              have HB2 := Lib.hid (below_step HB.out hHeld)
              clear hHeld
              go_wp2_with fail
              all_goals
                go_ret2
                refine HF.out false _ HB2.out ⟨fun h => Bool.noConfusion h, fun h => absurd h HYV.out⟩ _ _ ?_
                first | exact .inl ⟨rfl, rfl⟩ | exact .inr ⟨by omega, rfl⟩
        case neg =>
          have p3 : (e == 0) = false := beq_false_of_ne he
          have hst : stV R e = R.getD (R.length - 1) 0 := by unfold stV; rw [if_neg HR.out, if_neg he]
          have HST := Lib.hid hst
          have HE := Lib.hid he
          have HF : Hid (∀ (b : Bool) (w' : World), Below w.heap.size w w' → (b = true ↔ R.getD (R.length - 1) 0 = v) → DoT2 w w' (some ⟨g, off, none⟩) (.returned (.tuple #[.slice (some ⟨g, off, none⟩) (R.length - 1) cap, .bool b])) (dDo R ⟨who, kd, e, x, st, fr, till, true, v, lo, hi⟩)) := fun b w' hb' hbv => by
            cases b with
            | false => exact doTo_none hb' (HOO.out (fun h => Bool.noConfusion (hbv.2 (HST.out.symm.trans h.2))))
            | true => exact doTo_some (R := R.take (R.length - 1)) hb' ((HO.out ⟨HR.out, HST.out.trans (hbv.1 rfl)⟩).trans (congrArg some (if_neg HE.out))) (by rw [List.length_take]; omega) (by have := HC.out; omega) ((HU.out.later hb').init _) (fun k o h => .inl ⟨o, h⟩)
          clear hst c0 HO HOO HST HU he
          generalize R.getD (R.length - 1) 0 = y at cl HF
          obtain ⟨m, hm⟩ : ∃ m, R.length = m + 1 := ⟨R.length - 1, by omega⟩
          rw [show R.length - 1 = m by omega] at cl HF
          have hw : IntKind.i64.wrap ((R.length : Int) - 1) = (m : Int) := by rw [IntWalk.i64_in _ (by omega)]; omega
          have q3 : (m : Int) < (R.length : Int) := by omega
          have q4 : (m : Int) ≤ (cap : Int) := by omega
          clear hm
          generalize R.length = ls at *
          by_cases hyv : y = v
          case pos =>
            subst hyv
            go_enter Try.func22, Try.ntmps22
            go_wp2_with fail
            refine wp_region_seq ((0, true) :: (1, true) :: (2, true) :: (3, true) :: (4, true) :: (5, true) :: (6, true) :: (7, true) :: (8, true) :: (9, true) :: (10, true) :: (11, true) :: (12, true) :: (13, true) :: (14, true) :: []) (by kernel_rfl) (by kernel_rfl) (by kernel_rfl) (by decide) (fun _ _ _ _ _ h => h) (fun hHeld => ?_)
            repeat (first
              | (refine seq_take (v := ?_) rfl ?_ ?_ ?_; rotate_left 1; rfl; (focus (intro wS hSw; have hk := below_rule hSw; go_simp; first | done | with_reducible rfl)); (try simp only [Act.put, List.setIfInBounds_toArray, List.set_cons_zero, List.set_cons_succ]))
              | (refine seq_skip rfl ?_ ?_; rfl; (try simp only [Act.put, List.setIfInBounds_toArray, List.set_cons_zero, List.set_cons_succ]))
              | (refine seq_run rfl (fun K hK => ?_); go_simp; (try skip); (try go_wp2_with fail); refine hK.out _ _ ?_ ?_; (focus (first | exact below_step hHeld hb' | exact below_new hHeld _ | exact hHeld)); (try clear hb'); clear hHeld hK K; intro hHeld; (try simp only [Act.put, List.setIfInBounds_toArray, List.set_cons_zero, List.set_cons_succ])))
            first | refine seq_done ?_ | skip
            have HB2 := Lib.hid (below_step HB.out hHeld)
            clear hHeld
            go_wp2_with fail
            go_ret2
            exact HF.out true _ HB2.out (by first | exact ⟨fun _ => rfl, fun _ => rfl⟩ | simp)
          case neg =>
            have e3 : (y == v) = false := beq_false_of_ne hyv
            have HYV := Lib.hid hyv
            clear hyv
            go_enter Try.func22, Try.ntmps22
            go_wp2_with fail
            refine wp_region_seq ((0, true) :: (1, true) :: (2, true) :: (3, true) :: (4, true) :: (5, true) :: (6, true) :: (7, true) :: (8, true) :: (9, true) :: (10, true) :: (11, true) :: (12, true) :: (13, true) :: (14, true) :: []) (by kernel_rfl) (by kernel_rfl) (by kernel_rfl) (by decide) (fun _ _ _ _ _ h => h) (fun hHeld => ?_)
            repeat (first
              | (refine seq_take (v := ?_) rfl ?_ ?_ ?_; rotate_left 1; rfl; (focus (intro wS hSw; have hk := below_rule hSw; go_simp; first | done | with_reducible rfl)); (try simp only [Act.put, List.setIfInBounds_toArray, List.set_cons_zero, List.set_cons_succ]))
              | (refine seq_skip rfl ?_ ?_; rfl; (try simp only [Act.put, List.setIfInBounds_toArray, List.set_cons_zero, List.set_cons_succ]))
              | (refine seq_run rfl (fun K hK => ?_); go_simp; (try skip); (try go_wp2_with fail); refine hK.out _ _ ?_ ?_; (focus (first | exact below_step hHeld hb' | exact below_new hHeld _ | exact hHeld)); (try clear hb'); clear hHeld hK K; intro hHeld; (try simp only [Act.put, List.setIfInBounds_toArray, List.set_cons_zero, List.set_cons_succ])))
            first | refine seq_done ?_ | skip
            have HB2 := Lib.hid (below_step HB.out hHeld)
            clear hHeld
            go_wp2_with fail
            go_ret2
            exact HF.out false _ HB2.out ⟨fun h => Bool.noConfusion h, fun h => absurd h HYV.out⟩
theorem ldo_any (w : World) (a : Option Addr) (cap : Nat) (R : List Int) (d : Dd) (h : IsU w a R) (hc : R.length ≤ cap) (hn : R.length ≤ 900000) :
    Calls Try.prog 22 #[.slice a R.length cap, d.val] w fun r w' => DoTo w w' r (dDo R d) := (ldo2_any w a cap R d h hc hn).mono fun _ _ h => h.to
end Go.Proofs.Ytgoncakjkippkab
