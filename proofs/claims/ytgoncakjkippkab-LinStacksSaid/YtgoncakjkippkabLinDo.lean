/-
  A call done on a row; the contracts of Do and of Legal. No condition but that rows and lists are no longer than 100000.
-/
import Derived.Test.YtgoncakjkippkabLinRow
namespace Go.Proofs.Ytgoncakjkippkab
open Go.RowKit
set_option linter.unusedVariables false

theorem dDo_p {row : List Int} {d : Dd} (hk : d.kd = 0) (ho : d.ok = true) : dDo row d = some (if d.e = 0 then d.x :: row else row ++ [d.x]) := by
  unfold dDo
  rw [if_pos hk, if_pos ho]
theorem dDo_pn {row : List Int} {d : Dd} (hk : d.kd = 0) (ho : d.ok = false) : dDo row d = some row := by
  unfold dDo
  rw [if_pos hk, if_neg (by rw [ho]; decide)]
theorem dDo_gn {row : List Int} {d : Dd} (hk : d.kd ≠ 0) (ho : d.ok = false) : dDo row d = if row = [] then some row else none := by
  unfold dDo
  rw [if_neg hk, if_neg (by rw [ho]; decide)]
theorem dDo_g {row : List Int} {d : Dd} (hk : d.kd ≠ 0) (ho : d.ok = true) (h : row ≠ [] ∧ stV row d.e = d.v) : dDo row d = some (if d.e = 0 then row.drop 1 else row.take (row.length - 1)) := by
  obtain ⟨h1, h2⟩ := h
  unfold stV at h2
  rw [if_neg h1] at h2
  unfold dDo
  rw [if_neg hk, if_pos ho, if_neg h1]
  by_cases he : d.e = 0
  · rw [if_pos he] at h2 ⊢
    rw [if_pos h2, if_pos he]
  · rw [if_neg he] at h2 ⊢
    rw [if_pos h2, if_neg he]
theorem dDo_g0 {row : List Int} {d : Dd} (hk : d.kd ≠ 0) (ho : d.ok = true) (h : ¬ (row ≠ [] ∧ stV row d.e = d.v)) : dDo row d = none := by
  unfold dDo
  rw [if_neg hk, if_pos ho]
  by_cases h1 : row = []
  · rw [if_pos h1]
  · rw [if_neg h1]
    have h2 : ¬ stV row d.e = d.v := fun h2 => h ⟨h1, h2⟩
    unfold stV at h2
    rw [if_neg h1] at h2
    by_cases he : d.e = 0
    · rw [if_pos he] at h2 ⊢
      rw [if_neg h2]
    · rw [if_neg he] at h2 ⊢
      rw [if_neg h2]

theorem RwTo.below {W w : World} {b : Nat} {C : List Int} {f t : Nat} {R : List Int} (h : RwTo W w b C f t R) : Below W.heap.size W w := by
  obtain ⟨C', f', t', h1, _⟩ := h
  exact h1.below
/-- A call is done on a row. -/
def RwDid (W w' : World) (b : Nat) (C : List Int) (f t : Nat) (r : Ending) (o : Option (List Int)) : Prop :=
  Below W.heap.size W w' ∧ ((∃ R, o = some R ∧ r = .returned (.bool true) ∧ RwTo W w' b C f t R) ∨ (o = none ∧ r = .returned (.bool false)))
set_option maxHeartbeats 2000000 in
theorem rdo_any (W w : World) (b : Nat) (C : List Int) (f t : Nat) (d : Dd) (h : RwH W w b C f t) (h1 : 1 ≤ f) (h2 : t < C.length) (hn : C.length ≤ 1000000) :
    Calls Try.prog 21 #[pt b, d.val] w fun r w' => RwDid W w' b C f t r (dDo (rowOf C f t) d) := by
  have HH := Lib.hid h
  obtain ⟨_, _, g, hH⟩ := h
  have HO : Hid (IsObj w b [.slice (some ⟨g, 0, none⟩) C.length C.length, i64 f, i64 t]) := (hH.has 0 _ rfl).1
  clear hH
  have HN := Lib.hid (rowOf_nil (f := f) HH.out.2.1)
  have HL := Lib.hid HH.out.1
  obtain ⟨who, kd, e, x, st, fr, till, ok, v, lo, hi⟩ := d
  have HB := Lib.hid (below_new (Below.refl w.heap.size w) (Dd.obj ⟨who, kd, e, x, st, fr, till, ok, v, lo, hi⟩ 38))
  by_cases hk : kd = 0
  case pos =>
    subst hk
    cases ok
    case true =>
      have HD : Hid (dDo (rowOf C f t) ⟨who, 0, e, x, st, fr, till, true, v, lo, hi⟩ = _) := dDo_p (row := rowOf C f t) rfl rfl
      go_enter Try.func21, Try.ntmps21
      go_wp2_with fail
      refine (rput_any W _ b C f t e x (HH.out.later HB.out) h1 h2 hn).mono ?_
      rintro r w1 ⟨rfl, hto⟩
      have HT := Lib.hid hto
      clear hto HB HO
      go_wp2_with fail
      go_ret
      exact ⟨RwTo.below HT.out, .inl ⟨_, HD.out, rfl, HT.out⟩⟩
    case false =>
      have HD : Hid (dDo (rowOf C f t) ⟨who, 0, e, x, st, fr, till, false, v, lo, hi⟩ = _) := dDo_pn (row := rowOf C f t) rfl rfl
      go_enter Try.func21, Try.ntmps21
      go_wp2_with fail
      go_ret
      have h' := HH.out.later HB.out
      exact ⟨h'.below, .inl ⟨_, HD.out, rfl, h'.to⟩⟩
  case neg =>
    have p1 : (kd == 0) = false := beq_false_of_ne hk
    cases ok
    case true =>
      have HK := Lib.hid hk
      clear hk
      by_cases hh : rowOf C f t ≠ [] ∧ stV (rowOf C f t) e = v
      case pos =>
        have HD : Hid (dDo (rowOf C f t) ⟨who, kd, e, x, st, fr, till, true, v, lo, hi⟩ = _) := dDo_g (row := rowOf C f t) HK.out rfl hh
        have HHH := Lib.hid hh
        clear hh
        go_enter Try.func21, Try.ntmps21
        go_wp2_with fail
        refine (rtake_any W _ b C f t e v (HH.out.later HB.out) hn true ⟨fun _ => HHH.out, fun _ => rfl⟩).mono ?_
        rintro r w1 ⟨rfl, hto⟩
        rw [if_pos rfl] at hto
        have HT := Lib.hid hto
        clear hto HB HO
        go_wp2_with fail
        go_ret
        exact ⟨RwTo.below HT.out, .inl ⟨_, HD.out, rfl, HT.out⟩⟩
      case neg =>
        have HD : Hid (dDo (rowOf C f t) ⟨who, kd, e, x, st, fr, till, true, v, lo, hi⟩ = _) := dDo_g0 (row := rowOf C f t) HK.out rfl hh
        have HHH := Lib.hid hh
        clear hh
        go_enter Try.func21, Try.ntmps21
        go_wp2_with fail
        refine (rtake_any W _ b C f t e v (HH.out.later HB.out) hn false ⟨fun h => Bool.noConfusion h, fun h => absurd h HHH.out⟩).mono ?_
        rintro r w1 ⟨rfl, hto⟩
        have HT := Lib.hid hto
        clear hto HB HO
        go_wp2_with fail
        go_ret
        exact ⟨RwTo.below HT.out, .inr ⟨HD.out, rfl⟩⟩
    case false =>
      have HD : Hid (dDo (rowOf C f t) ⟨who, kd, e, x, st, fr, till, false, v, lo, hi⟩ = _) := dDo_gn (row := rowOf C f t) hk rfl
      have hO2 := HO.out.later HB.out
      have c1 := hO2.at' 1 _ rfl
      have c2 := hO2.at' 2 _ rfl
      clear hO2 hk
      by_cases hft : f = t
      case pos =>
        have HF := Lib.hid hft
        have e1 : ((f : Int) == (t : Int)) = true := beq_iff_eq.2 (by omega)
        clear hft
        go_enter Try.func21, Try.ntmps21
        go_wp2_with fail
        refine wp_region_seq ((0, true) :: (1, true) :: (2, true) :: (3, true) :: (4, true) :: (5, true) :: (6, true) :: (7, true) :: (8, true) :: (9, true) :: []) (by kernel_rfl) (by kernel_rfl) (by kernel_rfl) (by decide) (fun _ _ _ _ _ h => h) (fun hHeld => ?_)
        repeat (first
          | (refine seq_take (v := ?_) rfl ?_ ?_ ?_; rotate_left 1; rfl; (focus (intro wS hSw; have hk := below_rule hSw; go_simp; first | done | with_reducible rfl)); (try simp only [Act.put, List.setIfInBounds_toArray, List.set_cons_zero, List.set_cons_succ]))
          | (refine seq_skip rfl ?_ ?_; rfl; (try simp only [Act.put, List.setIfInBounds_toArray, List.set_cons_zero, List.set_cons_succ]))
          | (refine seq_run rfl (fun K hK => ?_); go_simp; (try skip); (try go_wp2_with fail); refine hK.out _ _ ?_ ?_; (focus (first | exact below_step hHeld hb' | exact below_new hHeld _ | exact hHeld)); (try clear hb'); clear hHeld hK K; intro hHeld; (try simp only [Act.put, List.setIfInBounds_toArray, List.set_cons_zero, List.set_cons_succ])))
        first | refine seq_done ?_ | skip
        have HX := Lib.hid hHeld
        clear hHeld c1 c2
        go_wp2_with fail
        go_ret
        have h' := (HH.out.later HB.out).later HX.out
        exact ⟨h'.below, .inl ⟨_, HD.out.trans (if_pos (HN.out.2 (by have := HF.out; omega))), rfl, h'.to⟩⟩
      case neg =>
        have HF := Lib.hid hft
        have e1 : ((f : Int) == (t : Int)) = false := beq_false_of_ne (by omega)
        clear hft
        go_enter Try.func21, Try.ntmps21
        go_wp2_with fail
        refine wp_region_seq ((0, true) :: (1, true) :: (2, true) :: (3, true) :: (4, true) :: (5, true) :: (6, true) :: (7, true) :: (8, true) :: (9, true) :: []) (by kernel_rfl) (by kernel_rfl) (by kernel_rfl) (by decide) (fun _ _ _ _ _ h => h) (fun hHeld => ?_)
        repeat (first
          | (refine seq_take (v := ?_) rfl ?_ ?_ ?_; rotate_left 1; rfl; (focus (intro wS hSw; have hk := below_rule hSw; go_simp; first | done | with_reducible rfl)); (try simp only [Act.put, List.setIfInBounds_toArray, List.set_cons_zero, List.set_cons_succ]))
          | (refine seq_skip rfl ?_ ?_; rfl; (try simp only [Act.put, List.setIfInBounds_toArray, List.set_cons_zero, List.set_cons_succ]))
          | (refine seq_run rfl (fun K hK => ?_); go_simp; (try skip); (try go_wp2_with fail); refine hK.out _ _ ?_ ?_; (focus (first | exact below_step hHeld hb' | exact below_new hHeld _ | exact hHeld)); (try clear hb'); clear hHeld hK K; intro hHeld; (try simp only [Act.put, List.setIfInBounds_toArray, List.set_cons_zero, List.set_cons_succ])))
        first | refine seq_done ?_ | skip
        have HX := Lib.hid hHeld
        clear hHeld c1 c2
        go_wp2_with fail
        go_ret
        have h' := (HH.out.later HB.out).later HX.out
        exact ⟨h'.below, .inr ⟨HD.out.trans (if_neg (fun h => by have h1 := HN.out.1 h; have h2 := HL.out; exact HF.out (by omega))), rfl⟩⟩

/-- copy into an own row, as a step of a drawn region. -/
theorem step_copy_keep {P : Program} {ops : Array Oper} {o : Oper} {a : Act} {w : World} {K : Act → World → Prop} {Q : Exit → Act → World → Prop} {E : Prop} (hgd : o.guard = none) (d s : Operand) (dT sT : TypeId)
    (ho : o.op = .call { callee := .builtin .copy, args := #[d, s], argTypes := #[dT, sT] }) (elem : TypeId) (hu : P.underlying dT = some (.slice elem)) (hsz : (P.info? elem).map (·.size) = some 1)
    (dp sp : Option Addr) (dLen dCap sLen sCap : Nat) (hd : a.eval d = .slice dp dLen dCap) (hs : a.eval s = .slice sp sLen sCap)
    (g off : Nat) (cur : List Value) (t : TypeId) (hg : w.heap[g]? = some (.cells cur.toArray t (0, 0))) (cs : List Value) (hn : cs.length = Nat.min sLen dLen)
    (hpos : 0 < cs.length → dp = some ⟨g, off, none⟩ ∧ ∃ ad, sp = some ad ∧ ∀ j v, cs[j]? = some v → w.cell? (ad.add j) = some v)
    (hfit : off + cs.length ≤ cur.length) (h1 : ∀ v ∈ cs, v.oneCell' = true)
    (h : ∀ w', w'.heap[g]? = some (.cells (splice cur off cs).toArray t (0, 0)) → Keep (fun k => k = g) w w' → K (a.put o.dst (goInt cs.length)) w') :
    if Region.wanted o (yielded ops a.tmps) = true then Oper.wp P o a w K Q else E := by
  have hw : Region.wanted o (yielded ops a.tmps) = true := by simp [Region.wanted, hgd]
  rw [if_pos hw]
  by_cases h0 : cs.length = 0
  · obtain rfl : cs = [] := List.eq_nil_of_length_eq_zero h0
    have hrun := run_copy_none (P := P) w dT sT o.type elem dp sp dLen dCap sLen sCap hu hsz (by simpa using hn.symm)
    unfold Oper.wp
    simp [execOp, ho, resolve, invoke, builtin, hd, hs, hrun, Result.andThen]
    exact h w (by simpa [splice] using hg) (Keep.refl _ _)
  · obtain ⟨rfl, ad, rfl, hsrc⟩ := hpos (by omega)
    have hrun := run_copy_row (P := P) w dT sT o.type elem g off dLen dCap ad sLen sCap cur.toArray t cs hu hsz hg hn hsrc (by simpa using hfit) h1
    unfold Oper.wp
    simp [execOp, ho, resolve, invoke, builtin, hd, hs, hrun, Result.andThen]
    exact h _ (by simpa [splice] using setRow_heap w g _ _ t _ hg) ⟨rfl, rfl, rfl, by simp [World.setRow], fun k _ hk => setRow_other w g k _ hk⟩
theorem splice_map (C R : List Int) (n : Nat) : splice (C.map u64) n (R.map u64) = (splice C n R).map u64 := by
  unfold splice
  rw [List.map_append, List.map_append, List.map_take, List.map_drop, List.length_map]
theorem splice_row (C R : List Int) (n : Nat) (h : n + R.length ≤ C.length) : rowOf (splice C n R) n (n + R.length) = R ∧ (splice C n R).length = C.length := by
  refine ⟨?_, length_splice C n R h⟩
  unfold rowOf splice
  rw [show n + R.length - n = R.length by omega, List.drop_append_of_le_length (by rw [List.length_take]; omega), List.drop_of_length_le (by rw [List.length_take]; omega), List.nil_append, List.take_left']
  rfl
theorem Hold.pick {W w : World} {l l' : List Thing} (h : Hold W w l) (f : Nat → Nat) (hf : ∀ (i : Nat) (A : Thing), l'[i]? = some A → l[f i]? = some A) (hi : ∀ i j, i < l'.length → j < l'.length → f i = f j → i = j) : Hold W w l' :=
  ⟨h.size, h.below, fun i A hA => h.ok _ A (hf i A hA), fun i A hA => h.has _ A (hf i A hA), fun i j A B hA hB hne => h.apart _ _ A B (hf i A hA) (hf j B hB) (fun e => hne (hi i j (List.getElem?_eq_some_iff.1 hA).1 (List.getElem?_eq_some_iff.1 hB).1 e))⟩
theorem Hold.flip2 {W w : World} {a b : Thing} (h : Hold W w [a, b]) : Hold W w [b, a] :=
  h.pick (fun i => if i = 0 then 1 else if i = 1 then 0 else i) (fun i A hA => by
    rcases i with _ | _ | i
    · exact hA
    · exact hA
    · simp at hA) (fun i j hi hj e => by
    simp only [List.length_cons, List.length_nil] at hi hj
    rcases (by omega : i = 0 ∨ i = 1) with rfl | rfl <;> rcases (by omega : j = 0 ∨ j = 1) with rfl | rfl <;> simp at e ⊢)
theorem row_heap {w : World} {base g N : Nat} {L : List Value} (hown : w.ownsRow base 28 1 (.slice (some ⟨g, 0, none⟩) N N) N L) : w.heap[g]? = some (.cells L.toArray 28 (0, 0)) := by
  have h1 := hown.1
  rcases hown.2 with ⟨h0, _⟩ | ⟨g', cap, cur, hv, _, hh, _, _, hcs, hct⟩
  · cases h0
  · cases hv
    rw [hh]
    have h2 : cur.toList = L := by
      rw [← hct, List.take_of_length_le (by rw [Array.length_toList, hcs]; exact Nat.le_refl _)]
    rw [← h2, Array.toArray_toList]
theorem row_own' {w : World} {base g N : Nat} {L : List Value} (hg : w.heap[g]? = some (.cells L.toArray 28 (0, 0))) (hl : L.length = N) (hb : base ≤ g) (hN : N ≤ maxLen) : w.ownsRow base 28 1 (.slice (some ⟨g, 0, none⟩) N N) N L :=
  ⟨by omega, .inr ⟨g, N, _, rfl, hb, hg, Nat.le_refl _, hN, by simp [hl], by rw [Nat.mul_one]; exact List.take_of_length_le (by simp [hl])⟩⟩

theorem made_u64s (n : Nat) : (madeCells (Value.int .u64 0).cells (n * 1)).toList = (List.replicate n (0 : Int)).map u64 := by
  rw [Nat.mul_one, List.map_replicate]
  exact toList_madeCells_one (.int .u64 0) n
/-- A new row. -/
theorem roomy_made (w w1 : World) (n N : Nat) (R : List Int) (hN : R.length + 2 * n = N) (hn : N ≤ 1000000) (T : TypeId) (hown : w1.ownsRow w.heap.size 28 1 (.slice (some ⟨w.heap.size, 0, none⟩) N N) N (madeCells (Value.int .u64 0).cells (N * 1)).toList) (hg : w.grownBy w1 none) :
    Hid (Hold w (w1.alloc (.cells #[.slice (some ⟨w.heap.size, 0, none⟩) N N, .int .i64 n, .int .i64 ((n : Int) + (R.length : Int))] T)) [tRow w.heap.size 28 1 (.slice (some ⟨w.heap.size, 0, none⟩) N N) N ((List.replicate N (0 : Int)).map u64), tObj w.heap.size w1.heap.size [.slice (some ⟨w.heap.size, 0, none⟩) N N, i64 n, i64 ((n : Int) + (R.length : Int))]]) := by
  have hb1 : Below w.heap.size w w1 := (Below.refl _ _).grown hg (Nat.le_refl _) (fun k hk => by cases hk)
  rw [made_u64s] at hown
  have h1 : Hold w w1 [tRow w.heap.size 28 1 (.slice (some ⟨w.heap.size, 0, none⟩) N N) N ((List.replicate N (0 : Int)).map u64)] := by
    exact (Hold.nil (Below.refl _ _)).more hb1 (tRow_ok _ _ _ _ _ _) hown (fun q hq => by cases hq; exact Nat.le_refl _)
  exact h1.more (below_new (Below.refl _ _) _) (tObj_ok _ _ _) ⟨IsObj.made w1 _ T, hb1.size⟩ (fun q hq => by cases hq; exact Nat.le_refl _)
theorem roomy_done {w w2 w3 : World} {b n N : Nat} {R : List Int} (hN : R.length + 2 * n = N) (hn : N ≤ 1000000) (hH : Hold w w2 [tRow w.heap.size 28 1 (.slice (some ⟨w.heap.size, 0, none⟩) N N) N ((List.replicate N (0 : Int)).map u64), tObj w.heap.size b [.slice (some ⟨w.heap.size, 0, none⟩) N N, i64 n, i64 ((n : Int) + (R.length : Int))]])
    (hg : w3.heap[w.heap.size]? = some (.cells (splice ((List.replicate N (0 : Int)).map u64) n (R.map u64)).toArray 28 (0, 0))) (hk : Keep (fun k => k = w.heap.size) w2 w3) : ∃ C, RwH w w3 b C n (n + R.length) ∧ C.length = R.length + 2 * n ∧ rowOf C n (n + R.length) = R := by
  rw [splice_map] at hg
  obtain ⟨h1, h2⟩ := splice_row (List.replicate N (0 : Int)) R n (by rw [List.length_replicate]; omega)
  rw [List.length_replicate] at h2
  refine ⟨splice (List.replicate N (0 : Int)) n R, ⟨by omega, by omega, w.heap.size, ?_⟩, by omega, h1⟩
  rw [h2, show i64 ((n + R.length : Nat) : Int) = i64 ((n : Int) + (R.length : Int)) by rw [Int.natCast_add]]
  refine Hold.flip2 (hH.turn 0 rfl (hk.mono (fun k hk => by subst hk; rfl)) (tRow_ok _ _ _ _ _ _) (row_own' hg (by rw [List.length_map, h2]) (Nat.le_refl _) (by unfold maxLen; omega)) (fun q hq => .inl hq))

theorem IsU.src {w : World} {a : Option Addr} {R : List Int} (h : IsU w a R) (hp : 0 < R.length) : ∃ ad, a = some ad ∧ ∀ (j : Nat) (v : Value), (R.map u64)[j]? = some v → w.cell? (ad.add j) = some v := by
  obtain ⟨g, off, rfl, _, h3⟩ := h hp
  refine ⟨_, rfl, fun j v hj => ?_⟩
  rw [List.getElem?_map] at hj
  obtain ⟨x, hx, rfl⟩ := Option.map_eq_some_iff.1 hj
  obtain ⟨hl, rfl⟩ := List.getElem?_eq_some_iff.1 hx
  rw [addr_add', h3 j hl, List.getD_eq_getElem?_getD, hx]
  rfl

set_option maxHeartbeats 2000000 in
theorem roomy_any (w : World) (a : Option Addr) (cap : Nat) (R : List Int) (n : Nat) (h : IsU w a R) (hc : R.length ≤ cap) (hn : R.length + 2 * n ≤ 1000000) :
    Calls Try.prog 20 #[.slice a R.length cap, .int .i64 n] w fun r w' => ∃ b C, r = .returned (pt b) ∧ RwH w w' b C n (n + R.length) ∧ C.length = R.length + 2 * n ∧ rowOf C n (n + R.length) = R := by
  have HU := Lib.hid h
  obtain ⟨i, hi, hz0, hz1, hz2⟩ := elem_u64.info
  obtain ⟨N, hN⟩ : ∃ N : Nat, R.length + 2 * n = N := ⟨_, rfl⟩
  obtain ⟨ls, hls⟩ : ∃ ls : Nat, R.length = ls := ⟨_, rfl⟩
  have HLS := Lib.hid hls
  have HNN := Lib.hid hN
  have HMADE := Lib.hid (fun w1 T h1 h2 => roomy_made w w1 n N R hN (by omega) T h1 h2)
  have hNi : (ls : Int) + 2 * n = N := by omega
  have hq : (n : Int) ≤ (N : Int) := by omega
  rw [hls]
  clear h
  go_enter Try.func20, Try.ntmps20
  go_wp2_with (refine wpList_make_full _ rfl _ _ 27 rfl w.heap.size 28 i (.int .u64 0) 1 elem_u64.und hi hz0 hz1 .i64 .i64 _ _ N rfl rfl (by first | exact hNi | omega) (by first | exact hNi | omega) (by rw [hz2]; omega) (by unfold maxLen; omega) (Nat.le_refl _) ?_; intro w1 hown hgrow)
  have hW2 := Hold.drew (HMADE.out w1 62 hown hgrow).out
  rw [HLS.out] at hW2
  have HW2 := Lib.hid hW2
  have HH := row_heap (hW2.has 0 _ rfl)
  have hO : IsObj _ w1.heap.size _ := (hW2.has 1 _ rfl).1
  have c0 := hO.at' 0 _ rfl
  have c1 := hO.at' 1 _ rfl
  have HHH := Lib.hid HH
  have HUU := Lib.hid (HU.out.later (hW2.below))
  have HPOS : Hid (0 < (R.map u64).length → (if N = n then some (⟨w.heap.size, 0, none⟩ : Addr) else some ⟨w.heap.size, n, none⟩) = some ⟨w.heap.size, n, none⟩ ∧ ∃ ad, a = some ad ∧ ∀ (j : Nat) (v : Value), (R.map u64)[j]? = some v → _ = some v) := fun hp => by
    rw [List.length_map] at hp
    exact ⟨if_neg (by have := HNN.out; omega), HUU.out.src hp⟩
  clear hO HH hown hgrow hNi HMADE hW2
  go_region_law (refine step_copy_keep rfl _ _ 27 27 rfl 28 elem_u64.und (by kernel_rfl) _ _ _ _ _ _ rfl rfl w.heap.size n ((List.replicate N (0 : Int)).map u64) 28 HHH.out (R.map u64) ?_ ?_ ?_ (fun v hv => by obtain ⟨x, _, rfl⟩ := List.mem_map.1 hv; rfl) ?_; (focus (rw [List.length_map, HLS.out]; exact (Nat.min_eq_left (by have := HNN.out; omega)).symm)); (focus exact HPOS.out); (focus (rw [List.length_map, List.length_map, List.length_replicate]; have := HNN.out; omega)); intro w2 hg2 hk2)
  all_goals
    obtain ⟨C, h1, h2, h3⟩ := roomy_done HNN.out (by omega) (by rw [HLS.out]; exact HW2.out) hg2 hk2
    rw [HLS.out] at h1 h2 h3
    have HC := Lib.hid (show RwH w w2 w1.heap.size C n (n + ls) ∧ C.length = ls + 2 * n ∧ rowOf C n (n + ls) = R from ⟨h1, h2, h3⟩)
    clear h1 h2 h3 hg2 hk2
    go_wp2
    all_goals
      go_ret
      exact ⟨_, rfl, C, HC.out⟩
/-- What Do tells: the row behind a call, which can be read, or that it can't be answered so. -/
def DoTo (w w' : World) (r : Ending) (o : Option (List Int)) : Prop :=
  Below w.heap.size w w' ∧ ∃ a n c ok, r = .returned (.tuple #[.slice a n c, .bool ok]) ∧ (∀ R, o = some R → ok = true ∧ n = R.length ∧ n ≤ c ∧ IsU w' a R) ∧ (o = none → ok = false)

/-- .. and it lies in a new block. -/
def DoFr (w w' : World) (r : Ending) (o : Option (List Int)) : Prop :=
  Below w.heap.size w w' ∧ ∃ a n c ok, r = .returned (.tuple #[.slice a n c, .bool ok]) ∧ (∀ R, o = some R → ok = true ∧ n = R.length ∧ n ≤ c ∧ IsU w' a R ∧ ∀ k off, a = some ⟨k, off, none⟩ → w.heap.size ≤ k) ∧ (o = none → ok = false)
theorem DoFr.to {w w' : World} {r : Ending} {o : Option (List Int)} (h : DoFr w w' r o) : DoTo w w' r o := by
  obtain ⟨h0, a, n, c, ok, h1, h2, h3⟩ := h
  exact ⟨h0, a, n, c, ok, h1, fun R hR => ⟨(h2 R hR).1, (h2 R hR).2.1, (h2 R hR).2.2.1, (h2 R hR).2.2.2.1⟩, h3⟩

theorem RwDid.cases {W w' : World} {b : Nat} {C : List Int} {f t : Nat} {r : Ending} {o : Option (List Int)} (h : RwDid W w' b C f t r o) : ∃ ok, r = .returned (.bool ok) ∧ Below W.heap.size W w' ∧ (ok = true → ∃ R, o = some R ∧ RwTo W w' b C f t R) ∧ (ok = false → o = none) := by
  obtain ⟨h1, ⟨R, h2, h3, h4⟩ | ⟨h2, h3⟩⟩ := h
  · exact ⟨true, h3, h1, fun _ => ⟨R, h2, h4⟩, fun h => Bool.noConfusion h⟩
  · exact ⟨false, h3, h1, fun h => Bool.noConfusion h, fun _ => h2⟩

set_option maxHeartbeats 2000000 in
theorem do_any (w : World) (a : Option Addr) (cap : Nat) (R : List Int) (d : Dd) (h : IsU w a R) (hc : R.length ≤ cap) (hn : R.length ≤ 900000) :
    Calls Try.prog 32 #[.slice a R.length cap, d.val] w fun r w' => DoFr w w' r (dDo R d) := by
  have HU := Lib.hid h
  clear h
  have HB := Lib.hid (below_new (Below.refl w.heap.size w) (d.obj 38))
  go_enter Try.func32, Try.ntmps32
  go_wp2_with fail
  refine (roomy_any _ a cap R 1 (HU.out.later HB.out) hc (by omega)).mono ?_
  rintro r w1 ⟨b, C, rfl, hrw, hlen, hrow⟩
  have HRW := Lib.hid hrw
  have HLEN := Lib.hid hlen
  have HROW := Lib.hid hrow
  obtain ⟨c0, c1, c2, c3, c4, c5, c6, c7, c8, c9, c10⟩ := (AtBd.made w d 38).later hrw.below
  clear hrw hlen hrow
  go_wp2_with fail
  refine (rdo_any _ w1 b C 1 (1 + R.length) d HRW.out (Nat.le_refl _) (by have := HLEN.out; omega) (by have := HLEN.out; omega)).mono ?_
  rintro r w2 hdid
  rw [HROW.out] at hdid
  obtain ⟨ok, rfl, hb2, h1, h2⟩ := hdid.cases
  have HB2 := Lib.hid (below_step HB.out hb2)
  clear hb2 hdid HROW HRW c0 c1 c2 c3 c4 c5 c6 c7 c8 c9 c10
  cases ok
  case false =>
    have HN := Lib.hid (h2 rfl)
    clear h1 h2
    go_wp2_with fail
    go_ret2
    refine ⟨HB2.out, _, _, _, _, rfl, fun R' hR => ?_, fun _ => rfl⟩
    rw [HN.out] at hR
    cases hR
  case true =>
    obtain ⟨R', h3, C', f', t', ⟨hft, htl, g, hH⟩, hl', hf', ht', hR'⟩ := h1 rfl
    have HD := Lib.hid h3
    have HRR := Lib.hid hR'
    have hO : IsObj w2 b _ := (hH.has 0 _ rfl).1
    have c0 := hO.at' 0 _ rfl
    have c1 := hO.at' 1 _ rfl
    have c2 := hO.at' 2 _ rfl
    have HU2 : Hid (IsU w2 (some ⟨g, f', none⟩) R') := by show IsU _ _ _; rw [← hR']; exact IsU.row (hH.has 1 _ rfl) htl
    have HL := Lib.hid (rowOf_len (f := f') htl)
    rw [hR'] at HL
    have q1 : (f' : Int) ≤ (t' : Int) := by omega
    have q2 : (t' : Int) ≤ (C'.length : Int) := by omega
    have HT := Lib.hid htl
    have HG : Hid (w.heap.size ≤ g) := Nat.le_trans (by simp) ((hH.has 1 _ rfl : World.ownsRow _ _ _ _ _ _ _).lt g rfl).1
    clear h1 h2 h3 hR' hH hO hl' hf' ht' HLEN
    generalize C'.length = N at *
    go_wp2_with fail
    refine wp_region_seq ((0, true) :: (1, true) :: (2, true) :: (3, true) :: (4, true) :: (5, true) :: (6, true) :: (7, true) :: (8, true) :: (9, true) :: (10, true) :: (11, true) :: (12, true) :: (13, true) :: (14, true) :: []) (by kernel_rfl) (by kernel_rfl) (by kernel_rfl) (by decide) (fun _ _ _ _ _ h => h) (fun hHeld => ?_)
    repeat (first
      | (refine seq_take (v := ?_) rfl ?_ ?_ ?_; rotate_left 1; rfl; (focus (intro wS hSw; have hk := below_rule hSw; go_simp; first | done | with_reducible rfl)); (try simp only [Act.put, List.setIfInBounds_toArray, List.set_cons_zero, List.set_cons_succ]))
      | (refine seq_skip rfl ?_ ?_; rfl; (try simp only [Act.put, List.setIfInBounds_toArray, List.set_cons_zero, List.set_cons_succ]))
      | (refine seq_run rfl (fun K hK => ?_); go_simp; (try skip); (try go_wp2_with fail); refine hK.out _ _ ?_ ?_; (focus (first | exact below_step hHeld hb' | exact below_new hHeld _ | exact hHeld)); (try clear hb'); clear hHeld hK K; intro hHeld; (try simp only [Act.put, List.setIfInBounds_toArray, List.set_cons_zero, List.set_cons_succ])))
    first | refine seq_done ?_ | skip
    all_goals
      have HX := Lib.hid hHeld
      clear hHeld c0 c1 c2
      go_wp2_with fail
      all_goals
        go_ret2
        refine ⟨below_step HB2.out HX.out, _, _, _, _, rfl, fun R2 hR => ?_, fun hN => ?_⟩
        · rw [HD.out] at hR
          cases hR
          refine ⟨rfl, HL.out.symm, by have := HT.out; omega, ?_, fun k off hk => by cases hk; exact HG.out⟩
          by_cases hNf : N = f'
          · have h0 : R' = [] := List.eq_nil_of_length_eq_zero (by rw [HL.out]; have := HT.out; omega)
            rw [h0]
            exact IsU.nil _ _
          · first | exact HU2.out.later HX.out | exact absurd (by assumption) hNf
        · rw [HD.out] at hN
          cases hN

theorem run_stop {l : List Dd} {i : Nat} {d : Dd} {r : List Int} (h : dRun [] (l.take i) = some r) (hd : l[i]? = some d) (h2 : dDo r d = none) : dRun [] l = none := by
  have e := dRun_snoc hd []
  rw [h] at e
  have e2 : dRun [] (l.take (i + 1)) = none := e.trans h2
  cases hl : dRun [] l with
  | none => rfl
  | some r2 =>
    obtain ⟨r3, h3⟩ := dRun_take hl (i + 1)
    rw [e2] at h3
    cases h3
theorem run_on {l : List Dd} {i : Nat} {d : Dd} {r r2 : List Int} (h : dRun [] (l.take i) = some r) (hd : l[i]? = some d) (h2 : dDo r d = some r2) : dRun [] (l.take (i + 1)) = some r2 := by
  have e := dRun_snoc hd []
  rw [h] at e
  exact e.trans h2
theorem run_all {l : List Dd} {i len : Nat} {r : List Int} (h : dRun [] (l.take i) = some r) (hl : l.length = len) (hi : len ≤ i) : (dRun [] l).isSome = true := by
  rw [List.take_of_length_le (by omega)] at h
  rw [h]
  rfl

set_option maxHeartbeats 4000000 in
theorem legal_any (w : World) (a0 : Option Addr) (len cap tb off : Nat) (l : List Dd) (bb : Bool) (h : IsDds w a0 len cap tb off l) (hn : len ≤ 100000) (hb : bb = (dRun [] l).isSome) :
    Calls Try.prog 9 #[.slice a0 len cap] w fun r w' => r = .returned (.bool bb) ∧ Below w.heap.size w w' := by
  have HL := Lib.hid h
  have HBB := Lib.hid hb
  have hcap := HL.out.2.1
  clear h hb
  go_enter Try.func9, Try.ntmps9
  go_wp2_with fail
  refine (roomy_any _ none 0 [] len (IsU.nil _ _) (Nat.le_refl _) (by simp; omega)).mono ?_
  rintro r w1 ⟨b, C0, rfl, hrw, hlen, hrow⟩
  have HR0 : Hid (RwH w w1 b C0 len (len + 0) ∧ C0.length = 2 * len ∧ dRun [] (l.take 0) = some (rowOf C0 len (len + 0))) := ⟨hrw, by rw [hlen]; simp, by rw [List.take_zero]; exact congrArg some hrow.symm⟩
  clear hrw hlen hrow
  go_wp2_with fail
  go_loopw [11] (fun iw wr => ∃ (i : Nat) (C : List Int) (f t : Nat), i ≤ len ∧ iw = .int .i64 i ∧ Hid (RwH w wr b C f t ∧ C.length = 2 * len ∧ len ≤ f + i ∧ t ≤ len + i ∧ dRun [] (l.take i) = some (rowOf C f t))) (fun iw _ => len - (RowKit.intOf iw).toNat)
  case atStart => exact ⟨0, C0, len, len, Nat.zero_le _, rfl, HR0.out.1, HR0.out.2.1, by omega, by omega, HR0.out.2.2⟩
  case round =>
    clear HR0
    obtain ⟨i, C, f, t, hi, rfl, HR⟩ := hrel
    rcases Nat.lt_or_ge i len with hil | hil
    · have hil' : (i : Int) < (len : Int) := by omega
      obtain ⟨d, hd⟩ : ∃ d, l[i]? = some d := ⟨_, List.getElem?_eq_getElem (by rw [HL.out.1]; exact hil)⟩
      obtain ⟨rfl, htb⟩ := HL.out.2.2.1 (by omega)
      obtain ⟨hA, hF⟩ := (HL.out.later HR.out.1.below (fun _ => htb)).2.2.2 i d hd
      obtain ⟨c0, c1, c2, c3, c4, c5, c6, c7, c8, c9, c10⟩ := hA
      have HD := Lib.hid hd
      clear hd hF
      go_wp2_with fail
      refine (rdo_any w _ b C f t d (by first | exact HR.out.1 | exact HR.out.1.later (below_new (Below.refl _ _) _)) (by have := HR.out.2.2.1; omega) (by have := HR.out.2; omega) (by have := HR.out.2; omega)).mono ?_
      rintro r w2 hdid
      obtain ⟨ok, rfl, hb2, h1, h2⟩ := hdid.cases
      have HB2 := Lib.hid hb2
      have H1 := Lib.hid h1
      have H2 := Lib.hid h2
      clear hb2 hdid h1 h2 c0 c1 c2 c3 c4 c5 c6 c7 c8 c9 c10
      cases ok
      case false =>
        have HN := Lib.hid (H2.out rfl)
        go_wp2_with fail
        go_ret
        refine ⟨?_, HB2.out⟩
        rw [HBB.out, run_stop HR.out.2.2.2.2 HD.out HN.out]
        rfl
      case true =>
        obtain ⟨R', h3, C', f', t', h4, h5, h6, h7, h8⟩ := H1.out rfl
        have HNEW : Hid (RwH w w2 b C' f' t' ∧ C'.length = 2 * len ∧ len ≤ f' + (i + 1) ∧ t' ≤ len + (i + 1) ∧ dRun [] (l.take (i + 1)) = some (rowOf C' f' t')) := ⟨h4, h5.trans HR.out.2.1, by have := HR.out.2; omega, by have := HR.out.2; omega, by rw [h8]; exact run_on HR.out.2.2.2.2 HD.out h3⟩
        clear h3 h4 h5 h6 h7 h8 HR
        go_wp2_with fail
        go_roundw
        case rel => exact ⟨i + 1, C', f', t', by omega, by go_num, HNEW⟩
        case measure => first | omega | (simp [RowKit.intOf]; done) | (simp [RowKit.intOf]; omega)
    · obtain rfl : i = len := by omega
      have hnl : ¬ (i : Int) < (i : Int) := by omega
      obtain rfl : bb = true := HBB.out.trans (run_all HR.out.2.2.2.2 HL.out.1 (Nat.le_refl _))
      go_wp2_with fail
      go_ret
      exact ⟨rfl, HR.out.1.below⟩
end Go.Proofs.Ytgoncakjkippkab
