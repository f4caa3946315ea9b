/-
  A yard on its way through moves: what is known behind each of them. No condition.
-/
import Derived.Test.YtpfjommkjkbonaaGreatYardHead
import Derived.Test.YtpfjommkjkbonaaGreatYardPlaces
namespace Go.Proofs.YtpfjommkjkbonaaGreat
open Go.RowKit
set_option linter.unusedVariables false

/-- A yard to which n things were done. -/
structure YdL (W w : World) (l : List Thing) (B : YB) (N : Nat) (Y : Yd) (J : Nat → Nat) (n : Nat) : Prop where
  h : YH W w l B Y J
  ok : YOk (plOf B N) B.T n Y
  len : (Y.C.length : Int) = 2 * N + 2 * B.t
  cf : YCf B N
  hT : (B.T : Int) = B.t
section
variable {W w w' : World} {l l' : List Thing} {B : YB} {Y Y' : Yd} {J J' : Nat → Nat} {n N : Nat}
theorem YdL.later (h : YdL W w l B N Y J n) (e : Below w.heap.size w w') : YdL W w' l B N Y J n := ⟨h.h.later e, h.ok, h.len, h.cf, h.hT⟩
theorem YMv.len {pl : Nat → Pl} (h : YMv pl Y Y') : Y'.C.length = Y.C.length := by
  cases h with
  | rest => rfl
  | call => rfl
  | pass => rfl
  | step => exact Wk.cells_len
theorem YdL.next (h : YdL W w l B N Y J n) (hn : n < 1000000) (hm : YMv (plOf B N) Y Y') (hl : YH W w' l' B Y' J') : YdL W w' l' B N Y' J' (n + 1) :=
  ⟨hl, h.ok.next hm hn h.h.fit, by rw [hm.len]; exact h.len, h.cf, h.hT⟩
/-- What a move notes. -/
theorem DoIs.notes {x : Mv} (h : DoIs B N x Y Y') (ho : YOk (plOf B N) B.T n Y) : Y'.L = Y.L ∨ (x.k ≠ 0 ∧ x.k ≠ 6 ∧ ∃ e : Ev, Y'.L = Y.L ++ [e] ∧ e.who = if x.k = 7 then x.who else x.w B.t) := by
  rcases h.log with h1 | ⟨h1, h2, k, T, i, z, hk, hw, ha, rfl⟩
  · exact .inl h1
  · obtain ⟨k1, k2, k3, _⟩ := ho.task k T i hw
    rcases Wk.noted (now := Y.now) k1 k3 with ⟨hE, _⟩ | ⟨e, hE, hN⟩
    · refine .inl ?_
      show Y.L ++ T.ev (plOf B N k) Y.C Y.now = Y.L
      rw [hE, List.append_nil]
    · refine .inr ⟨h1, h2, e, ?_, by rw [hN.who', hk]⟩
      show Y.L ++ T.ev (plOf B N k) Y.C Y.now = _
      rw [hE]
theorem YdL.start {s so d : Int} {T : Nat} {yb tb p c : Nat} (hl : Lay T s N) (o0 : 0 ≤ so) (o1 : so ≤ 4) (d0 : 0 ≤ d) (d1 : d ≤ 100) (h : YH W w l ⟨yb, tb, p, c, T, s, so, d, T⟩ ⟨List.replicate (2 * N + 2 * T) 0, [], 0, 0, List.replicate T none, []⟩ J) :
    YdL W w l ⟨yb, tb, p, c, T, s, so, d, T⟩ N ⟨List.replicate (2 * N + 2 * T) 0, [], 0, 0, List.replicate T none, []⟩ J 0 :=
  ⟨h, YOk.start _ T, by show ((List.replicate (2 * N + 2 * T) (0 : Int)).length : Int) = _; rw [List.length_replicate]; show ((2 * N + 2 * T : Nat) : Int) = 2 * N + 2 * (T : Int); omega, ⟨hl, o0, o1, d0, d1⟩, rfl⟩
theorem YdL.log (h : YdL W w l B N Y J n) (hn : n ≤ 1000000) : Calls Tryz.prog 41 #[pt B.yb] w (LogPost Y.L w) := by
  obtain ⟨v, vd, X, hA⟩ := h.h
  exact ylog_any hA (by have := h.ok.nL; have := h.ok.most; omega)
theorem YdL.deeds (h : YdL W w l B N Y J n) (hn : n ≤ 1000000) : Calls Tryz.prog 25 #[pt B.yb] w (DeedsPost Y.ds w) := by
  obtain ⟨v, vd, X, hA⟩ := h.h
  exact ydeeds_any hA (by have := h.ok.nds; have := h.ok.most; omega)
theorem YGo.more (Y : Yd) (l : List Thing) (A : Thing) (J : Nat → Nat) : YGo Y Y l (l ++ [A]) J J :=
  ⟨by rw [List.length_append]; exact Nat.le_add_right _ _, fun j A hj _ => by rw [List.getElem?_append_left (List.getElem?_eq_some_iff.1 hj).1]; exact hj, fun _ _ h => h⟩
theorem YH.newFree (h : YH W w l B Y J) : YFree Y J l.length := by
  obtain ⟨v, vd, X, h⟩ := h
  refine ⟨(List.getElem?_eq_some_iff.1 h.deeds).1, fun k a hk => ?_⟩
  obtain ⟨y, _, _, _, d, _⟩ := h.busy k a.1 a.2 hk
  exact Nat.ne_of_lt (List.getElem?_eq_some_iff.1 d).1
theorem YdL.more (h : YdL W w l B N Y J n) {A : Thing} (e : Below w.heap.size w w') (ok : A.Ok W.heap.size) (hP : A.P w') (hF : ∀ q, A.F q → w.heap.size ≤ q) : YdL W w' (l ++ [A]) B N Y J n := ⟨h.h.more e ok hP hF, h.ok, h.len, h.cf, h.hT⟩
/-- Something that lies beside a yard. -/
structure Rest (Y : Yd) (l : List Thing) (J : Nat → Nat) (j : Nat) (A : Thing) : Prop where
  at' : l[j]? = some A
  free : YFree Y J j
theorem Rest.go {j : Nat} {A : Thing} (h : Rest Y l J j A) (g : YGo Y Y' l l' J J') : Rest Y' l' J' j A := ⟨g.keep j A h.at' h.free, g.free j (List.getElem?_eq_some_iff.1 h.at').1 h.free⟩
theorem YdL.rest (h : YdL W w l B N Y J n) (A : Thing) : Rest Y (l ++ [A]) J l.length A := ⟨by rw [List.getElem?_append_right (Nat.le_refl _), Nat.sub_self]; rfl, h.h.newFree⟩
theorem YdL.has (h : YdL W w l B N Y J n) {j : Nat} {A : Thing} (hr : Rest Y l J j A) : A.P w := h.h.hold.has _ _ hr.at'
theorem YdL.busy (h : YdL W w l B N Y J n) (k : Nat) (b : Bool) (hb : ∃ q, Y.ts[k]? = some q ∧ q.isSome = b) : Calls Tryz.prog 35 #[pt B.yb, i64 k] w fun r w' => r = .returned (.bool b) ∧ w = w' := by
  obtain ⟨q, hq, rfl⟩ := hb
  obtain ⟨v, vd, X, hA⟩ := h.h
  exact busy_in hA k (by have := (List.getElem?_eq_some_iff.1 hq).1; have := h.ok.len; omega) q hq
theorem YdL.call (h : YdL W w l B N Y J n) (hn : n < 1000000) (k : Nat) (hk : k < B.T) (take : Bool) {kd : Int} (hkd : kdI take = kd) (e x s : Int) (he : e = 0 ∨ e = 1) (x0 : 0 ≤ x) (x1 : x ≤ 18446744073709551615) :
    Calls Tryz.prog 38 #[pt B.yb, i64 k, callV kd e x s] w fun r w' => ∃ l' J' Y', YdL W w' l' B N Y' J' (n + 1) ∧ YGo Y Y' l l' J J' ∧ ((r = .returned (i64 2) ∧ Y' = Y ∧ ∃ a, Y.ts[k]? = some (some a)) ∨ (r = .returned (i64 0) ∧ Y.ts[k]? = some none ∧ Y' = Y.call k kd e x s (wkB B N k take e x s))) := by
  refine (ycall_who h.cf h.h h.ok hn h.len k hk take hkd e x s he x0 x1).mono ?_
  rintro r w' ⟨l', J', Y', h1, h2, h3, h4⟩
  exact ⟨l', J', Y', h.next hn h3 h1, h2, h4⟩
end
/-- A move that lies in a block of its own. -/
def Mv.list (x : Mv) : List Value := [i64 x.kind, i64 x.who, .bool x.take, .bool x.right, u64 x.value, i64 x.start, i64 x.time]
theorem AtMv.obj {w : World} {b : Nat} {x : Mv} (h : IsObj w b x.list) : AtMv w b 0 x :=
  ⟨h.at' 0 _ rfl, h.at' 1 _ rfl, h.at' 2 _ rfl, h.at' 3 _ rfl, h.at' 4 _ rfl, h.at' 5 _ rfl, h.at' 6 _ rfl⟩

end Go.Proofs.YtpfjommkjkbonaaGreat
