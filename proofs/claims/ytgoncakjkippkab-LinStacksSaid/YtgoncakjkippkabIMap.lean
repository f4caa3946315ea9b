/-
  Maps from numbers to ints, and sets of numbers, that a call has made, as functions: what is looked up, what is laid, what the keys are. No condition.
-/
import Derived.Test.YtgoncakjkippkabBase
import Derived.Test.YtgoncakjkippkabFrame
import Derived.Maps.OwnOps
import Derived.Maps.OwnSet
import Derived.Maps.RangeWalk
import Derived.Lib.SlKeysI
namespace Go.Proofs.Ytgoncakjkippkab
open Go.RowKit Go.Maps
set_option linter.unusedVariables false

/-- What is known of a map's type: keys of the kind kq, ints. -/
structure MapTy (P : Program) (t kt et : TypeId) (kq : IntKind) : Prop where
  ht : P.underlying t = some (.map kt et)
  hk : P.underlying kt = some (.int kq)
  he : P.underlying et = some (.int .i64)
  hz : ∀ w, (zeroValue et).run P w = .ok (.int .i64 0) w
/-- .. of a set's: elements without cells. -/
structure SetTy (P : Program) (t kt et : TypeId) (kq : IntKind) : Prop where
  ht : P.underlying t = some (.map kt et)
  hk : P.underlying kt = some (.int kq)
  hz : ∀ w, (zeroValue et).run P w = .ok (.agg #[]) w

/-- Block b is a map of at most n entries: at the key k stands F k, 0 where there is none; M k tells whether there is one. -/
def IMap (P : Program) (kt et : TypeId) (kq : IntKind) (w : World) (b n : Nat) (F : Int → Int) (M : Int → Bool) : Prop :=
  ∃ D : DataW Unit, w.ownsMap P kt (plainElem P et) b n D ∧ ∀ k, (Lit.int kq k).wf = true → D.atKey (.int kq k) (.lit (.int .i64 0)) = .lit (.int .i64 (F k)) ∧ Maps.has D (.int kq k) = M k
/-- Block b is a set of at most n numbers. -/
def ISet (P : Program) (kt : TypeId) (kq : IntKind) (w : World) (b n : Nat) (M : Int → Bool) : Prop :=
  ∃ D : DataW Unit, w.ownsMap P kt unitElem b n D ∧ ∀ k, (Lit.int kq k).wf = true → Maps.has D (.int kq k) = M k

section
variable {P : Program} {t kt et : TypeId} {kq : IntKind} {w w' : World} {b n : Nat} {F : Int → Int} {M : Int → Bool}

theorem owns_later {H : Type} {R : Value → Option (DataW H × List MemPlace)} {D : DataW H} {B : Nat} (h : w.ownsMap P kt R b n D) (e : Below B w w') (hb : b < B) : w'.ownsMap P kt R b n D := by
  obtain ⟨es, clock, h1, h2⟩ := h
  exact ⟨es, clock, (e.block b hb).trans h1, h2⟩
theorem IMap.lt (h : IMap P kt et kq w b n F M) : b < w.heap.size := by
  obtain ⟨D, h, _⟩ := h
  exact h.lt
theorem ISet.lt (h : ISet P kt kq w b n M) : b < w.heap.size := by
  obtain ⟨D, h, _⟩ := h
  exact h.lt
theorem IMap.later (h : IMap P kt et kq w b n F M) (e : Below w.heap.size w w') : IMap P kt et kq w' b n F M := by
  obtain ⟨D, h, k⟩ := h
  exact ⟨D, owns_later h e h.lt, k⟩
theorem ISet.later (h : ISet P kt kq w b n M) (e : Below w.heap.size w w') : ISet P kt kq w' b n M := by
  obtain ⟨D, h, k⟩ := h
  exact ⟨D, owns_later h e h.lt, k⟩
theorem IMap.kept {row : Option Nat} (h : IMap P kt et kq w b n F M) (hg : w.grownBy w' row) (hne : some b ≠ row) : IMap P kt et kq w' b n F M := by
  obtain ⟨D, h, k⟩ := h
  exact ⟨D, h.kept hg hne, k⟩
theorem ISet.kept {row : Option Nat} (h : ISet P kt kq w b n M) (hg : w.grownBy w' row) (hne : some b ≠ row) : ISet P kt kq w' b n M := by
  obtain ⟨D, h, k⟩ := h
  exact ⟨D, h.kept hg hne, k⟩
theorem IMap.drew (h : IMap P kt et kq w b n F M) : IMap P kt et kq w.drew b n F M := h
theorem ISet.drew (h : ISet P kt kq w b n M) : ISet P kt kq w.drew b n M := h
theorem IMap.setCell (h : IMap P kt et kq w b n F M) {a : Addr} (ha : b ≠ a.block) (u : Value) : IMap P kt et kq (w.setCell a u) b n F M := by
  obtain ⟨D, h, k⟩ := h
  exact ⟨D, h.setCell ha u, k⟩
theorem ISet.setCell (h : ISet P kt kq w b n M) {a : Addr} (ha : b ≠ a.block) (u : Value) : ISet P kt kq (w.setCell a u) b n M := by
  obtain ⟨D, h, k⟩ := h
  exact ⟨D, h.setCell ha u, k⟩
theorem IMap.mono (h : IMap P kt et kq w b n F M) {n' : Nat} (hn : n ≤ n') : IMap P kt et kq w b n' F M := by
  obtain ⟨D, h, k⟩ := h
  exact ⟨D, h.mono hn, k⟩
theorem ISet.mono (h : ISet P kt kq w b n M) {n' : Nat} (hn : n ≤ n') : ISet P kt kq w b n' M := by
  obtain ⟨D, h, k⟩ := h
  exact ⟨D, h.mono hn, k⟩
/-- The same map, told by other words. -/
theorem IMap.as {F' : Int → Int} {M' : Int → Bool} (h : IMap P kt et kq w b n F M) (hF : ∀ k, F k = F' k) (hM : ∀ k, M k = M' k) : IMap P kt et kq w b n F' M' := by
  obtain ⟨D, h, k⟩ := h
  exact ⟨D, h, fun x hx => by rw [← hF x, ← hM x]; exact k x hx⟩
theorem ISet.as {M' : Int → Bool} (h : ISet P kt kq w b n M) (hM : ∀ k, M k = M' k) : ISet P kt kq w b n M' := by
  obtain ⟨D, h, k⟩ := h
  exact ⟨D, h, fun x hx => by rw [← hM x]; exact k x hx⟩
theorem IMap.made (w : World) (P : Program) (kt et : TypeId) (kq : IntKind) : IMap P kt et kq (w.alloc (.map #[] 0)) w.heap.size 0 (fun _ => 0) (fun _ => false) :=
  ⟨.map [], World.ownsMap_made _ _ _ _, fun _ _ => ⟨rfl, rfl⟩⟩
theorem ISet.made (w : World) (P : Program) (kt : TypeId) (kq : IntKind) : ISet P kt kq (w.alloc (.map #[] 0)) w.heap.size 0 (fun _ => false) :=
  ⟨.map [], World.ownsMap_made _ _ _ _, fun _ _ => rfl⟩

/-- What is laid: F turned at one place. -/
def putF (F : Int → Int) (k c : Int) : Int → Int := fun z => if z = k then c else F z
def putM (M : Int → Bool) (k : Int) : Int → Bool := fun z => decide (z = k) || M z

theorem IMap.store (ty : MapTy P t kt et kq) (h : IMap P kt et kq w b n F M) (hn : n < maxLen) {k c : Int} (hk : (Lit.int kq k).wf = true) (hc : (Lit.int .i64 c).wf = true) :
    ∃ w', (Instr.mapUpdate t (.map (some b)) (.int kq k) (.int .i64 c)).run P w = .ok () w' ∧ IMap P kt et kq w' b (n + 1) (putF F k c) (putM M k) ∧ w.grownBy w' (some b) := by
  obtain ⟨D, h, hD⟩ := h
  have K := int_keyed ty.hk
  have key := keyOf_int_mk ty.hk hk
  obtain ⟨w', hr, h1, h2⟩ := h.update K ty.ht hn key (plainElem_int ty.he hc)
  refine ⟨w', hr, ⟨_, h1, fun z hz => ?_⟩, h2⟩
  by_cases e : z = k
  · subst e
    rw [atKey_put_same h.isMap (K.key key), has_put_same h.isMap (K.key key)]
    exact ⟨by rw [putF, if_pos rfl], by rw [putM]; simp⟩
  · have hne : Lit.int kq z ≠ Lit.int kq k := fun hh => e (by cases hh; rfl)
    rw [atKey_put_other hne, has_put_other hne]
    exact ⟨by rw [putF, if_neg e]; exact (hD z hz).1, by rw [putM, decide_eq_false e, Bool.false_or]; exact (hD z hz).2⟩
theorem ISet.store (ty : SetTy P t kt et kq) (h : ISet P kt kq w b n M) (hn : n < maxLen) {k : Int} (hk : (Lit.int kq k).wf = true) :
    ∃ w', (Instr.mapUpdate t (.map (some b)) (.int kq k) (.agg #[])).run P w = .ok () w' ∧ ISet P kt kq w' b (n + 1) (putM M k) ∧ w.grownBy w' (some b) := by
  obtain ⟨D, h, hD⟩ := h
  have K := int_keyed ty.hk
  have key := keyOf_int_mk ty.hk hk
  obtain ⟨w', hr, h1, h2⟩ := h.update K ty.ht hn key unitElem_mk
  refine ⟨w', hr, ⟨_, h1, fun z hz => ?_⟩, h2⟩
  by_cases e : z = k
  · subst e
    rw [has_put_same h.isMap (K.key key), putM]
    simp
  · have hne : Lit.int kq z ≠ Lit.int kq k := fun hh => e (by cases hh; rfl)
    rw [has_put_other hne, putM, decide_eq_false e, Bool.false_or]
    exact hD z hz

variable {ops : Array Oper} {rest : List Oper} {o : Oper} {a : Act} {Q : Exit → Act → World → Prop}

/-- m[k] -/
theorem list_im_look (hg : o.guard = none) (m x : Operand) (t : TypeId) (hop : o.op = Op.lookup t m x false) (ty : MapTy P t kt et kq) (hm : a.eval m = .map (some b)) (h : IMap P kt et kq w b n F M) (k c : Int) (hx : a.eval x = .int kq k) (hk : (Lit.int kq k).wf = true) (hc : F k = c)
    (hK : wpList P ops Q rest (a.put o.dst (.int .i64 c)) w) : wpList P ops Q (o :: rest) a w := by
  obtain ⟨D, h, hD⟩ := h
  refine wpList_lookup_own_int w hg m x t hop kt et .i64 (int_keyed ty.hk) ty.ht ty.he (ty.hz w) b n D hm h _ _ hx (keyOf_int_mk ty.hk hk) fun c' hc' _ => ?_
  rw [(hD k hk).1, hc] at hc'
  cases hc'
  exact hK
/-- v, ok := m[k] -/
theorem list_im_look_ok (hg : o.guard = none) (m x : Operand) (t : TypeId) (hop : o.op = Op.lookup t m x true) (ty : MapTy P t kt et kq) (hm : a.eval m = .map (some b)) (h : IMap P kt et kq w b n F M) (k c : Int) (y : Bool) (hx : a.eval x = .int kq k) (hk : (Lit.int kq k).wf = true) (hc : F k = c) (hy : M k = y)
    (hK : wpList P ops Q rest (a.put o.dst (.tuple #[.int .i64 c, .bool y])) w) : wpList P ops Q (o :: rest) a w := by
  obtain ⟨D, h, hD⟩ := h
  refine wpList_lookup_own_ok_int w hg m x t hop kt et .i64 (int_keyed ty.hk) ty.ht ty.he (ty.hz w) b n D hm h _ _ hx (keyOf_int_mk ty.hk hk) fun c' hc' _ => ?_
  rw [(hD k hk).1, hc] at hc'
  cases hc'
  rw [(hD k hk).2, hy]
  exact hK
/-- _, ok := s[k] -/
theorem list_is_look (hg : o.guard = none) (m x : Operand) (t : TypeId) (hop : o.op = Op.lookup t m x true) (ty : SetTy P t kt et kq) (hm : a.eval m = .map (some b)) (h : ISet P kt kq w b n M) (k : Int) (y : Bool) (hx : a.eval x = .int kq k) (hk : (Lit.int kq k).wf = true) (hy : M k = y)
    (hK : wpList P ops Q rest (a.put o.dst (.tuple #[.agg #[], .bool y])) w) : wpList P ops Q (o :: rest) a w := by
  obtain ⟨D, h, hD⟩ := h
  refine wpList_lookup_own_unit w hg m x t hop kt et (int_keyed ty.hk) ty.ht (ty.hz w) b n D hm h _ _ hx (keyOf_int_mk ty.hk hk) ?_
  rw [hD k hk, hy]
  exact hK
/-- m[k] = c, as one operation -/
theorem wp_im_put {K : Act → World → Prop} (m x v : Operand) (t : TypeId) (hop : o.op = Op.mapUpdate t m x v) (ty : MapTy P t kt et kq) (hm : a.eval m = .map (some b)) (h : IMap P kt et kq w b n F M) (hn : n < maxLen) (k c : Int) (hx : a.eval x = .int kq k) (hv : a.eval v = .int .i64 c)
    (hk : (Lit.int kq k).wf = true) (hc : (Lit.int .i64 c).wf = true) (hK : ∀ w', IMap P kt et kq w' b (n + 1) (putF F k c) (putM M k) → w.grownBy w' (some b) → K (a.put o.dst undef) w') : Oper.wp P o a w K Q := by
  obtain ⟨w', hr, h1, h2⟩ := h.store ty hn hk hc
  unfold Oper.wp
  simp [execOp, hop, hm, hx, hv, hr, Result.andThen]
  exact hK w' h1 h2
theorem list_im_put (hg : o.guard = none) (m x v : Operand) (t : TypeId) (hop : o.op = Op.mapUpdate t m x v) (ty : MapTy P t kt et kq) (hm : a.eval m = .map (some b)) (h : IMap P kt et kq w b n F M) (hn : n < maxLen) (k c : Int) (hx : a.eval x = .int kq k) (hv : a.eval v = .int .i64 c)
    (hk : (Lit.int kq k).wf = true) (hc : (Lit.int .i64 c).wf = true) (hK : ∀ w', IMap P kt et kq w' b (n + 1) (putF F k c) (putM M k) → w.grownBy w' (some b) → wpList P ops Q rest (a.put o.dst undef) w') : wpList P ops Q (o :: rest) a w :=
  wpList_plain hg fun K' hK' => wp_im_put m x v t hop ty hm h hn k c hx hv hk hc fun w' h1 h2 => hK' _ _ (hK w' h1 h2)
/-- s[k] = struct{}{} -/
theorem list_is_put (hg : o.guard = none) (m x v : Operand) (t : TypeId) (hop : o.op = Op.mapUpdate t m x v) (ty : SetTy P t kt et kq) (hm : a.eval m = .map (some b)) (h : ISet P kt kq w b n M) (hn : n < maxLen) (k : Int) (hx : a.eval x = .int kq k) (hv : a.eval v = .agg #[])
    (hk : (Lit.int kq k).wf = true) (hK : ∀ w', ISet P kt kq w' b (n + 1) (putM M k) → w.grownBy w' (some b) → wpList P ops Q rest (a.put o.dst undef) w') : wpList P ops Q (o :: rest) a w :=
  wpList_plain hg fun K' hK' => by
    obtain ⟨w', hr, h1, h2⟩ := h.store ty hn hk
    unfold Oper.wp
    simp [execOp, hop, hm, hx, hv, hr, Result.andThen]
    exact hK' _ _ (hK w' h1 h2)
end
end Go.Proofs.Ytgoncakjkippkab
