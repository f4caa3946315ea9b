/-
  How many steps of its own a call has done, and how often others turned words meanwhile, as rows that the law keeps; whether an event turns a word. No condition.
-/
import Derived.Test.YtgoncakjkippkabGreatBoundWin
namespace Go.Proofs.YtgoncakjkippkabGreat
open Go.RowKit
set_option linter.unusedVariables false

/-- A row with a cell for each thread. -/
def fl (T : Nat) (f : Nat → Value) : List Value := (List.range T).map f
theorem fl_at {T k : Nat} {f : Nat → Value} (hk : k < T) : (fl T f)[k]? = some (f k) := by
  unfold fl
  rw [List.getElem?_map, List.getElem?_range hk]
  rfl
theorem fl_len (T : Nat) (f : Nat → Value) : (fl T f).length = T := by simp [fl]
theorem fl_same {T : Nat} {f g : Nat → Value} (h : ∀ k, k < T → f k = g k) : fl T f = fl T g :=
  List.map_congr_left (fun k hk => h k (List.mem_range.1 hk))
theorem fl_set {T k : Nat} {f g : Nat → Value} {v : Value} (hk : k < T) (h1 : g k = v) (h2 : ∀ j, j < T → j ≠ k → g j = f j) : (fl T f).set k v = fl T g := by
  refine List.ext_getElem? (fun j => ?_)
  rw [List.getElem?_set]
  by_cases e : k = j
  · subst e
    rw [if_pos rfl, if_pos (by rw [fl_len]; exact hk), fl_at hk, h1]
  · rw [if_neg e]
    by_cases hj : j < T
    · rw [fl_at hj, fl_at hj, h2 j hj (fun e' => e e'.symm)]
    · rw [List.getElem?_eq_none (by rw [fl_len]; omega), List.getElem?_eq_none (by rw [fl_len]; omega)]
theorem fl_new (T : Nat) (v : Value) : List.replicate T v = fl T (fun _ => v) := by
  refine List.ext_getElem? (fun j => ?_)
  rw [List.getElem?_replicate]
  by_cases hj : j < T
  · rw [if_pos hj, fl_at hj]
  · rw [if_neg hj, List.getElem?_eq_none (by rw [fl_len]; omega)]
def nums (f : Nat → Nat) : Nat → Value := fun k => .int .i64 (f k : Nat)
def bits' (f : Nat → Bool) : Nat → Value := fun k => .bool (f k)
def updB (f : Nat → Bool) (k : Nat) (v : Bool) : Nat → Bool := fun j => if j = k then v else f j
theorem nums_upd {T k : Nat} (f : Nat → Nat) (v : Nat) (hk : k < T) : (fl T (nums f)).set k (.int .i64 (v : Nat)) = fl T (nums (updN f k v)) :=
  fl_set hk (by unfold nums; rw [updN_same]) (fun j _ hj => by unfold nums; rw [updN_other hj])
theorem bits_upd {T k : Nat} (f : Nat → Bool) (v : Bool) (hk : k < T) : (fl T (bits' f)).set k (.bool v) = fl T (bits' (updB f k v)) :=
  fl_set hk (by unfold bits' updB; rw [if_pos rfl]) (fun j _ hj => by unfold bits' updB; rw [if_neg hj])

/-- Does an event turn a word? -/
def isTurn (N : Nat) (e : Ev) : Bool := decide (0 ≤ e.cell ∧ e.cell < N) && (decide (e.op = 1) || (decide (e.op = 2) && e.ok))
def turnN (N : Nat) (e : Ev) : Nat := if isTurn N e = true then 1 else 0
/-- The others' counts while they are gone through: so many are done. -/
def othQ (f : Nat → Nat) (w dl q : Nat) : Nat → Nat := fun k => if k < q then othN f w dl k else f k
theorem othQ_zero (f : Nat → Nat) (w dl : Nat) : othQ f w dl 0 = f := funext (fun k => if_neg (Nat.not_lt_zero _))
theorem othQ_at {f : Nat → Nat} {w dl q : Nat} : othQ f w dl q q = f q := if_neg (Nat.lt_irrefl _)
theorem othQ_all {T : Nat} (f : Nat → Nat) (w dl : Nat) : fl T (nums (othQ f w dl T)) = fl T (nums (othN f w dl)) :=
  fl_same (fun k hk => by unfold nums othQ; rw [if_pos hk])
theorem othQ_same {T : Nat} {f : Nat → Nat} {w dl q : Nat} (h : othN f w dl q = f q) : fl T (nums (othQ f w dl (q + 1))) = fl T (nums (othQ f w dl q)) :=
  fl_same (fun k hk => by
    unfold nums othQ
    by_cases e : k = q
    · subst e
      rw [if_pos (Nat.lt_succ_self _), if_neg (Nat.lt_irrefl _), h]
    · by_cases h2 : k < q
      · rw [if_pos (by omega), if_pos h2]
      · rw [if_neg (by omega), if_neg h2])
theorem othQ_set {T : Nat} {f : Nat → Nat} {w dl q v : Nat} (hq : q < T) (h : othN f w dl q = v) : (fl T (nums (othQ f w dl q))).set q (.int .i64 (v : Nat)) = fl T (nums (othQ f w dl (q + 1))) :=
  fl_set hq (by unfold nums othQ; rw [if_pos (Nat.lt_succ_self _), h]) (fun j _ hj => by
    unfold nums othQ
    by_cases h2 : j < q
    · rw [if_pos (by omega), if_pos h2]
    · rw [if_neg (by omega), if_neg h2])

/-- The law's books: what each thread's row says of its call. -/
structure OBk (pl : Nat → Pl) (put : Nat) (Y : Yd) (own tn : Nat → Nat) (tk : Nat → Bool) (n : Nat) : Prop where
  books : Books pl put Y own tn
  kind : ∀ (k : Nat) (T : Wk) (i : Nat), Y.ts[k]? = some (some (T, i)) → tk k = T.take
  ownB : ∀ k, own k ≤ n
  tnB : ∀ k, tn k ≤ n
section
variable {pl : Nat → Pl} {t n N put m : Nat} {Y : Yd} {own tn : Nat → Nat} {tk : Nat → Bool}
theorem OBk.start (h : ∀ (k : Nat) (a : Wk × Nat), Y.ts[k]? ≠ some (some a)) (tk : Nat → Bool) : OBk pl put Y (fun _ => 0) (fun _ => 0) tk 0 :=
  ⟨Books.none h, fun k T i hk => absurd hk (h k _), fun _ => Nat.le_refl _, fun _ => Nat.le_refl _⟩
theorem OBk.call (h : OBk pl put Y own tn tk n) {w : Nat} {kd e x s : Int} {T : Wk} (hw : Y.ts[w]? = some .none) (hT : OLeft (pl w) T Y.C put 0 0) {b : Bool} (hb : T.take = b) : OBk pl put (Y.call w kd e x s T) (updN own w 0) (updN tn w 0) (updB tk w b) n := by
  refine ⟨h.books.call hw hT, fun k T' i hk => ?_, fun k => ?_, fun k => ?_⟩
  · have hk' : (Y.ts.set w (some (T, Y.ds.length)))[k]? = some (some (T', i)) := hk
    rw [List.getElem?_set] at hk'
    split at hk'
    · rename_i e1
      subst e1
      split at hk'
      · cases hk'
        unfold updB
        rw [if_pos rfl, hb]
      · cases hk'
    · rename_i e1
      unfold updB
      rw [if_neg (fun e2 => e1 e2.symm)]
      exact h.kind k T' i hk'
  · unfold updN
    split
    · exact Nat.zero_le _
    · exact h.ownB k
  · unfold updN
    split
    · exact Nat.zero_le _
    · exact h.tnB k
theorem take_step (T : Wk) (P : Pl) (C : List Int) (now z : Int) : (T.step P C now z).take = T.take := by cases T <;> rfl
/-- A step: what the law checks holds, and the books go on. -/
theorem OBk.step (h : OBk pl put Y own tn tk n) (ho : YOk pl t m Y) (hN : ∀ k, (pl k).N = N) {w : Nat} {T : Wk} {i : Nat} {z : Int} (hw : Y.ts[w]? = some (some (T, i))) (ha : T.ask Y.C z) (hf : ∀ j, 0 ≤ Y.C.getD j 0) {dl : Nat} (hd1 : dl ≤ 1) (hd : WSame N Y.C (T.cells (pl w) Y.C Y.now) ∨ 1 ≤ dl) :
    own w + 1 ≤ T.lim N put (tn w) ∧ OBk pl put (Y.step (pl w) w T i z) (updN own w (own w + 1)) (othN tn w dl) tk (n + 1) := by
  obtain ⟨g1, g2⟩ := h.books.step ho hN hw ha hf hd
  refine ⟨g1, g2, fun k T' i' hk => ?_, fun k => ?_, fun k => ?_⟩
  · rcases bstep_ts hk with ⟨rfl, rfl, hp⟩ | ⟨hne, hk⟩
    · rw [take_step]
      exact h.kind k T i hw
    · exact h.kind k T' i' hk
  · unfold updN
    have := h.ownB w
    have := h.ownB k
    split <;> omega
  · unfold othN
    have := h.tnB w
    have := h.tnB k
    split <;> omega
end
/-- What a step notes: nothing, and then it turns no word; or one event, which says whether it turns one. -/
theorem Wk.turns {T : Wk} {P : Pl} {C : List Int} {now : Int} {w : Nat} (h : T.Ok P C) (hb : T.by' w) (hp : T.ph = 0) :
    (T.ev P C now = [] ∧ WSame P.N C (T.cells P C now)) ∨ ∃ e, T.ev P C now = [e] ∧ (WSame P.N C (T.cells P C now) ∨ 1 ≤ turnN P.N e) := by
  rcases Wk.noted (now := now) h hb with ⟨hE, _⟩ | ⟨e, hE, _⟩
  · refine .inl ⟨hE, ?_⟩
    rcases Wk.words (now := now) (z := 0) h hp with hs | ⟨⟨e, he, _⟩, _⟩
    · exact hs
    · rw [hE] at he
      cases he
  · refine .inr ⟨e, hE, ?_⟩
    rcases Wk.words (now := now) (z := 0) h hp with hs | ⟨⟨e', he, c0, c1, ho⟩, _⟩
    · exact .inl hs
    · rw [hE] at he
      cases he
      refine .inr ?_
      unfold turnN
      rw [if_pos]
      · exact Nat.le_refl _
      · unfold isTurn
        rw [decide_eq_true (show 0 ≤ e.cell ∧ e.cell < (P.N : Int) from ⟨c0, c1⟩), Bool.true_and]
        rcases ho with ho | ⟨ho, hk⟩
        · rw [decide_eq_true ho, Bool.true_or]
        · rw [decide_eq_true ho, hk, Bool.true_and, Bool.or_true]
theorem turnN_le (N : Nat) (e : Ev) : turnN N e ≤ 1 := by unfold turnN; split <;> omega

/-- An event by value. -/
abbrev Ev.val (e : Ev) : Value := .agg #[.int .i64 e.who, .int .i64 e.op, .int .i64 e.cell, .int .u64 e.old, .int .u64 e.new, .bool e.ok]
theorem kindC_out (t N c : Int) (h : ¬ (0 ≤ c ∧ c < N)) : ∃ k x, KindC t N c k x ∧ k ≠ 1 := by
  by_cases h1 : c < 0 ∨ 2 * N + 2 * t ≤ c
  · exact ⟨0, 0, .inl ⟨h1, rfl, rfl⟩, by decide⟩
  by_cases h2 : c < 2 * N
  · exact ⟨2, c - N, .inr (.inr (.inl ⟨by omega, h2, rfl, rfl⟩)), by decide⟩
  by_cases h3 : c < 2 * N + t
  · exact ⟨3, c - 2 * N, .inr (.inr (.inr (.inl ⟨by omega, h3, rfl, rfl⟩))), by decide⟩
  · exact ⟨4, c - (2 * N + t), .inr (.inr (.inr (.inr ⟨by omega, by omega, rfl, rfl⟩))), by decide⟩

set_option maxHeartbeats 2000000 in
theorem turned_any {t s so d : Int} {N : Nat} (hl : Lay t s N) (e : Ev) (w : World) :
    Calls Tryz.prog 16 #[cf t s so d, e.val] w fun r w' => r = .returned (.bool (isTurn N e)) ∧ Below w.heap.size w w' := by
  obtain ⟨who, op, cell, old, new, ok⟩ := e
  have HO : Hid (IsObj ((w.alloc (.cells #[i64 t, i64 s, i64 so, i64 d] 27)).alloc (.cells #[i64 who, i64 op, i64 cell, u64 old, u64 new, .bool ok] 53)) (w.heap.size + 1) [i64 who, i64 op, i64 cell, u64 old, u64 new, .bool ok]) := Lib.hid (by have h := IsObj.made (w.alloc (.cells #[i64 t, i64 s, i64 so, i64 d] 27)) [i64 who, i64 op, i64 cell, u64 old, u64 new, .bool ok] 53; simp only [World.size_alloc] at h; exact h)
  by_cases hc : 0 ≤ cell ∧ cell < (N : Int)
  · have HK := Lib.hid (fun w => ckind_any t s so d N cell 1 cell w hl (.inr (.inl ⟨hc.1, hc.2, rfl, rfl⟩)))
    have hv : isTurn N ⟨who, op, cell, old, new, ok⟩ = (decide (op = 1) || (decide (op = 2) && ok)) := by
      unfold isTurn
      rw [decide_eq_true hc, Bool.true_and]
    rw [hv]
    clear hv hc
    rcases (by omega : op = 1 ∨ op = 2 ∨ (op ≠ 1 ∧ op ≠ 2)) with rfl | rfl | ⟨h1, h2⟩
    · skip
      go_enter Tryz.func16, Tryz.ntmps16
      go_wp2_with fail
      refine (HK.out _).mono ?_
      rintro r w1 ⟨rfl, hb⟩
      have HB := Lib.hid (below_step (below_new (below_new (Below.refl _ _) _) _) hb)
      have HO1 := HO.out.later hb
      obtain ⟨k0, k1, k2, k3, k4, k5⟩ : _ ∧ _ ∧ _ ∧ _ ∧ _ ∧ _ := ⟨HO1.at' 0 _ rfl, HO1.at' 1 _ rfl, HO1.at' 2 _ rfl, HO1.at' 3 _ rfl, HO1.at' 4 _ rfl, HO1.at' 5 _ rfl⟩
      clear hb HO1
      go_wp2
      go_ret
      exact ⟨rfl, HB.out⟩
    · cases ok
      all_goals
        go_enter Tryz.func16, Tryz.ntmps16
        go_wp2_with fail
        refine (HK.out _).mono ?_
        rintro r w1 ⟨rfl, hb⟩
        have HB := Lib.hid (below_step (below_new (below_new (Below.refl _ _) _) _) hb)
        have HO1 := HO.out.later hb
        obtain ⟨k0, k1, k2, k3, k4, k5⟩ : _ ∧ _ ∧ _ ∧ _ ∧ _ ∧ _ := ⟨HO1.at' 0 _ rfl, HO1.at' 1 _ rfl, HO1.at' 2 _ rfl, HO1.at' 3 _ rfl, HO1.at' 4 _ rfl, HO1.at' 5 _ rfl⟩
        clear hb HO1
        go_wp2
        go_ret
        exact ⟨rfl, HB.out⟩
    · have e1 : (op == 1) = false := by simp [h1]
      have e2 : (op == 2) = false := by simp [h2]
      rw [decide_eq_false h1, decide_eq_false h2]
      clear h1 h2
      go_enter Tryz.func16, Tryz.ntmps16
      go_wp2_with fail
      refine (HK.out _).mono ?_
      rintro r w1 ⟨rfl, hb⟩
      have HB := Lib.hid (below_step (below_new (below_new (Below.refl _ _) _) _) hb)
      have HO1 := HO.out.later hb
      obtain ⟨k0, k1, k2, k3, k4, k5⟩ : _ ∧ _ ∧ _ ∧ _ ∧ _ ∧ _ := ⟨HO1.at' 0 _ rfl, HO1.at' 1 _ rfl, HO1.at' 2 _ rfl, HO1.at' 3 _ rfl, HO1.at' 4 _ rfl, HO1.at' 5 _ rfl⟩
      clear hb HO1
      go_wp2
      go_ret
      exact ⟨rfl, HB.out⟩
  · obtain ⟨k, x, hk, hk1⟩ := kindC_out t N cell hc
    have HK := Lib.hid (fun w => ckind_any t s so d N cell k x w hl hk)
    have hv : isTurn N ⟨who, op, cell, old, new, ok⟩ = false := by
      unfold isTurn
      rw [decide_eq_false hc, Bool.false_and]
    rw [hv]
    have e1 : (k == 1) = false := by simp [hk1]
    clear hv hc hk hk1
    go_enter Tryz.func16, Tryz.ntmps16
    go_wp2_with fail
    refine (HK.out _).mono ?_
    rintro r w1 ⟨rfl, hb⟩
    have HB := Lib.hid (below_step (below_new (below_new (Below.refl _ _) _) _) hb)
    have HO1 := HO.out.later hb
    obtain ⟨k0, k1, k2, k3, k4, k5⟩ : _ ∧ _ ∧ _ ∧ _ ∧ _ ∧ _ := ⟨HO1.at' 0 _ rfl, HO1.at' 1 _ rfl, HO1.at' 2 _ rfl, HO1.at' 3 _ rfl, HO1.at' 4 _ rfl, HO1.at' 5 _ rfl⟩
    clear hb HO1
    go_wp2
    go_ret
    exact ⟨rfl, HB.out⟩
/-- A yard, and the law's three rows beside it. -/
structure OwnsAt (W w : World) (l : List Thing) (B : YB) (N : Nat) (Y : Yd) (J : Nat → Nat) (n bo bt bk : Nat) (own tn : Nat → Nat) (tk : Nat → Bool) : Prop where
  yd : YdL W w l B N Y J n
  r4 : Rest Y l J 4 (tObj W.heap.size bo (fl B.T (nums own)))
  r5 : Rest Y l J 5 (tObj W.heap.size bt (fl B.T (nums tn)))
  r6 : Rest Y l J 6 (tObj W.heap.size bk (fl B.T (bits' tk)))
section
variable {W w w' : World} {l l' : List Thing} {B : YB} {Y Y' : Yd} {J J' : Nat → Nat} {n n' N bo bt bk k v : Nat} {own tn tn' : Nat → Nat} {tk : Nat → Bool}
theorem OwnsAt.later (h : OwnsAt W w l B N Y J n bo bt bk own tn tk) (e : Below w.heap.size w w') : OwnsAt W w' l B N Y J n bo bt bk own tn tk := ⟨h.yd.later e, h.r4, h.r5, h.r6⟩
theorem OwnsAt.go (h : OwnsAt W w l B N Y J n bo bt bk own tn tk) (d : YdL W w' l' B N Y' J' n') (g : YGo Y Y' l l' J J') : OwnsAt W w' l' B N Y' J' n' bo bt bk own tn tk := ⟨d, h.r4.go g, h.r5.go g, h.r6.go g⟩
theorem OwnsAt.o4 (h : OwnsAt W w l B N Y J n bo bt bk own tn tk) : IsObj w bo (fl B.T (nums own)) := (h.yd.has h.r4).1
theorem OwnsAt.o5 (h : OwnsAt W w l B N Y J n bo bt bk own tn tk) : IsObj w bt (fl B.T (nums tn)) := (h.yd.has h.r5).1
theorem OwnsAt.o6 (h : OwnsAt W w l B N Y J n bo bt bk own tn tk) : IsObj w bk (fl B.T (bits' tk)) := (h.yd.has h.r6).1
theorem OwnsAt.set4 (h : OwnsAt W w l B N Y J n bo bt bk own tn tk) (hk : k < B.T) (v : Nat) : OwnsAt W (w.setCell ⟨bo, k, none⟩ (.int .i64 (v : Nat))) (l.set 4 (tObj W.heap.size bo (fl B.T (nums (updN own k v))))) B N Y J n bo bt bk (updN own k v) tn tk := by
  have h1 := h.yd.h.hold.objSet 4 h.r4.at' k (.int .i64 (v : Nat))
  rw [nums_upd own v hk] at h1
  obtain ⟨h2, h3⟩ := h.yd.turnRest h.r4 h1
  exact ⟨h2, h3, h.r5.set (by decide) _, h.r6.set (by decide) _⟩
theorem OwnsAt.set5 (h : OwnsAt W w l B N Y J n bo bt bk own tn tk) {k : Nat} {v : Nat} (e : (fl B.T (nums tn)).set k (.int .i64 (v : Nat)) = fl B.T (nums tn')) : OwnsAt W (w.setCell ⟨bt, k, none⟩ (.int .i64 (v : Nat))) (l.set 5 (tObj W.heap.size bt (fl B.T (nums tn')))) B N Y J n bo bt bk own tn' tk := by
  have h1 := h.yd.h.hold.objSet 5 h.r5.at' k (.int .i64 (v : Nat))
  rw [e] at h1
  obtain ⟨h2, h3⟩ := h.yd.turnRest h.r5 h1
  exact ⟨h2, h.r4.set (by decide) _, h3, h.r6.set (by decide) _⟩
theorem OwnsAt.set6 (h : OwnsAt W w l B N Y J n bo bt bk own tn tk) (hk : k < B.T) (v : Bool) : OwnsAt W (w.setCell ⟨bk, k, none⟩ (.bool v)) (l.set 6 (tObj W.heap.size bk (fl B.T (bits' (updB tk k v))))) B N Y J n bo bt bk own tn (updB tk k v) := by
  have h1 := h.yd.h.hold.objSet 6 h.r6.at' k (.bool v)
  rw [bits_upd tk v hk] at h1
  obtain ⟨h2, h3⟩ := h.yd.turnRest h.r6 h1
  exact ⟨h2, h.r4.set (by decide) _, h.r5.set (by decide) _, h3⟩
theorem OwnsAt.eq5 (h : OwnsAt W w l B N Y J n bo bt bk own tn tk) (e : fl B.T (nums tn) = fl B.T (nums tn')) : OwnsAt W w l B N Y J n bo bt bk own tn' tk := ⟨h.yd, h.r4, by rw [← e]; exact h.r5, h.r6⟩
theorem Rest.app {j : Nat} {A C : Thing} (h : Rest Y l J j A) : Rest Y (l ++ [C]) J j A := ⟨by rw [List.getElem?_append_left (List.getElem?_eq_some_iff.1 h.at').1]; exact h.at', h.free⟩
theorem Rest.num {j i : Nat} {A : Thing} (h : Rest Y l J j A) (e : j = i) : Rest Y l J i A := e ▸ h
/-- Something new beside all. -/
theorem OwnsAt.more (h : OwnsAt W w l B N Y J n bo bt bk own tn tk) {A : Thing} (e : Below w.heap.size w w') (ok : A.Ok W.heap.size) (hP : A.P w') (hF : ∀ q, A.F q → w.heap.size ≤ q) : OwnsAt W w' (l ++ [A]) B N Y J n bo bt bk own tn tk ∧ Rest Y (l ++ [A]) J l.length A := by
  exact ⟨⟨h.yd.more e ok hP hF, h.r4.app, h.r5.app, h.r6.app⟩, h.yd.rest A⟩
theorem OwnsAt.ne (h : OwnsAt W w l B N Y J n bo bt bk own tn tk) : bo ≠ bt ∧ bo ≠ bk ∧ bt ≠ bk :=
  ⟨fun e => h.yd.h.hold.apart 4 5 _ _ h.r4.at' h.r5.at' (by decide) bo rfl e, fun e => h.yd.h.hold.apart 4 6 _ _ h.r4.at' h.r6.at' (by decide) bo rfl e, fun e => h.yd.h.hold.apart 5 6 _ _ h.r5.at' h.r6.at' (by decide) bt rfl e⟩
theorem OwnsAt.neX (h : OwnsAt W w l B N Y J n bo bt bk own tn tk) {j ab : Nat} {xs : List Value} (hr : Rest Y l J j (tObj W.heap.size ab xs)) (hj : 6 < j) : bo ≠ ab ∧ bt ≠ ab ∧ bk ≠ ab :=
  ⟨fun e => h.yd.h.hold.apart 4 j _ _ h.r4.at' hr.at' (by omega) bo rfl e, fun e => h.yd.h.hold.apart 5 j _ _ h.r5.at' hr.at' (by omega) bt rfl e, fun e => h.yd.h.hold.apart 6 j _ _ h.r6.at' hr.at' (by omega) bk rfl e⟩
theorem Rest.lt {j : Nat} {A : Thing} (h : Rest Y l J j A) : j < l.length := (List.getElem?_eq_some_iff.1 h.at').1
end
theorem elem_bool16 : ElemAt Tryz.prog 38 4 (.bool false) 1 1 := ElemAt.mk' Tryz.underlying38 (by kernel_rfl) rfl (by decide)
theorem flatE_lastj (L : List Ev) (e : Ev) (j : Nat) {v : Value} (h : e.cells[j]? = some v) : (flatE (L ++ [e]))[L.length * 6 + j]? = some v := by
  rw [flatE_append, List.getElem?_append_right (by rw [flatE_length]; omega), flatE_length, Nat.add_sub_cancel_left]
  show (e.cells ++ [])[j]? = _
  rw [List.append_nil]
  exact h
/-- An event that lies somewhere. -/
structure AtEv6 (w : World) (g o : Nat) (e : Ev) : Prop where
  c0 : w.cell? ⟨g, o, none⟩ = some (i64 e.who)
  c1 : w.cell? ⟨g, o + 1, none⟩ = some (i64 e.op)
  c2 : w.cell? ⟨g, o + 2, none⟩ = some (i64 e.cell)
  c3 : w.cell? ⟨g, o + 3, none⟩ = some (u64 e.old)
  c4 : w.cell? ⟨g, o + 4, none⟩ = some (u64 e.new)
  c5 : w.cell? ⟨g, o + 5, none⟩ = some (.bool e.ok)
/-- Where the loop over what was noted is: ahead of the event, or behind it. -/
def LoopAt (w : World) (g o : Nat) (e : Ev) (q : Nat) (tn2 tn tn' : Nat → Nat) : Prop := (q = 0 ∧ tn2 = tn ∧ AtEv6 w g o e) ∨ (q = 1 ∧ tn2 = tn')
theorem turnN_no {N : Nat} {e : Ev} (h : isTurn N e = false) : turnN N e = 0 := by unfold turnN; rw [h]; rfl
theorem turnN_yes {N : Nat} {e : Ev} (h : isTurn N e = true) : turnN N e = 1 := by unfold turnN; rw [h]; rfl
theorem made_in16 (n : Nat) : (madeCells (Value.int .i64 0).cells (n * 1)).toList = List.replicate n (Value.int .i64 0) := by
  rw [Nat.mul_one]
  exact toList_madeCells_one (.int .i64 0) n
theorem made_bo16 (n : Nat) : (madeCells (Value.bool false).cells (n * 1)).toList = List.replicate n (Value.bool false) := by
  rw [Nat.mul_one]
  exact toList_madeCells_one (.bool false) n
theorem IsObj.row16 {w : World} {base g n : Nat} {e : TypeId} {xs : List Value} (h : w.ownsRow base e 1 (.slice (some ⟨g, 0, none⟩) n n) n xs) (hl : xs.length = n) : IsObj w g xs :=
  ⟨fun j x hj => by rw [h.cellAt j (by have := (List.getElem?_eq_some_iff.1 hj).1; omega)]; exact hj, fun o => h.frozenAt o, (h.lt g rfl).2⟩
end Go.Proofs.YtgoncakjkippkabGreat
