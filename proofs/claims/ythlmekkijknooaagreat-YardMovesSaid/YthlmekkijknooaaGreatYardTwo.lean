/-
  Contracts of what is done to a yard, or to the books beside it, where both are held. No condition.
-/
import Derived.Test.YthlmekkijknooaaGreatYardSide
namespace Go.Proofs.YthlmekkijknooaaGreat
open Go.RowKit
set_option linter.unusedVariables false

/-- What comes of a step doesn't hang on how it was asked. -/
theorem Wk.step_one' {T : Wk} {P : Pl} {C : List Int} {now z z' : Int} (hk : T.Ok P C) (hf : ∀ j, 0 ≤ C.getD j 0 ∧ C.getD j 0 ≤ 18446744073709551615) (h : T.ask C z) (h' : T.ask C z') : T.step P C now z = T.step P C now z' := by
  cases T with
  | pu k => rfl
  | ge k =>
    show Wk.ge (k.step P.N P.hw C z) = Wk.ge (k.step P.N P.hw C z')
    rw [Ge.step_one hk.1 hf h h']
theorem EvAt.later {w w' : World} {A : Option Addr} {L : List Ev} (h : EvAt w A L) (e : Below w.heap.size w w') : EvAt w' A L := fun hp => by
  obtain ⟨g, hg, h1⟩ := h hp
  exact ⟨g, hg, fun i j ev u hi hj hu => (e.cell (p := ⟨g, i * 6 + j, none⟩) (World.block_lt_of_cell? _ _ (h1 i j ev u hi hj hu))).trans (h1 i j ev u hi hj hu)⟩
theorem elem_tk : ElemAt Tryz.prog 36 42 (.pointer none) 1 8 := ElemAt.mk' Tryz.underlying36 (by kernel_rfl) rfl (by decide)
theorem made_tk (n : Nat) : (madeCells (Value.pointer none).cells (n * 1)).toList = List.replicate n (Value.pointer none) := by
  rw [Nat.mul_one]
  exact toList_madeCells_one (.pointer none) n
theorem made_in (n : Nat) : (madeCells (Value.int .i64 0).cells (n * 1)).toList = List.replicate n (Value.int .i64 0) := by
  rw [Nat.mul_one]
  exact toList_madeCells_one (.int .i64 0) n
theorem IsObj.row13 {w : World} {base g n : Nat} {e : TypeId} {xs : List Value} (h : w.ownsRow base e 1 (.slice (some ⟨g, 0, none⟩) n n) n xs) (hl : xs.length = n) : IsObj w g xs :=
  ⟨fun j x hj => by rw [h.cellAt j (by have := (List.getElem?_eq_some_iff.1 hj).1; omega)]; exact hj, fun o => h.frozenAt o, (h.lt g rfl).2⟩

section
variable {W w w' : World} {l l' : List Thing} {B : YB} {Y Y' Z Z' : Yd} {J J' K : Nat → Nat} {S : SB} {n N : Nat} {v vd : Value} {X M : List Value}

theorem Tw.same (h : Tw W w l B N Y J n S Z K v vd X M) (hC : Z'.C = Z.C) (hL : Z'.L = Z.L) (ht : Z'.ts = Z.ts) (hd : Z'.ds = Z.ds) : Tw W w l B N Y J n S Z' K v vd X M := by
  obtain ⟨C, L, nw, mv, ts, ds⟩ := Z
  obtain ⟨C', L', nw', mv', ts', ds'⟩ := Z'
  obtain rfl : C' = C := hC
  obtain rfl : L' = L := hL
  obtain rfl : ts' = ts := ht
  obtain rfl : ds' = ds := hd
  exact ⟨h.yd, h.sd.mem, h.sd.row, h.sd.mine, h.sd.deeds, h.sd.free, h.sd.xl, h.sd.ml, h.sd.tl, h.sd.idle, h.sd.busy, h.sd.inj⟩
theorem Tw.rest1 (h : Tw W w l B N Y J n S Z K v vd X M) (hn : n < 1000000) : Tw W w l B N Y J (n + 1) S Z K v vd X M := ⟨h.yd.next hn .rest h.yd.h, h.sd⟩
/-- Books that were just made. -/
theorem Tw.start (h : YdL W w (l ++ [tMem W.heap.size S.p S.c v Y.C []] ++ [tObj W.heap.size S.tb (List.replicate B.T (.pointer none))] ++ [tObj W.heap.size S.mb (List.replicate B.T (.int .i64 0))] ++ [tRow W.heap.size 55 11 vd 0 []]) B N Y J n) (hl : l.length = 4) (hL : Y.L = []) (ht : Y.ts = List.replicate B.T none) (hd : Y.ds = []) :
    Tw W w (l ++ [tMem W.heap.size S.p S.c v Y.C []] ++ [tObj W.heap.size S.tb (List.replicate B.T (.pointer none))] ++ [tObj W.heap.size S.mb (List.replicate B.T (.int .i64 0))] ++ [tRow W.heap.size 55 11 vd 0 []]) B N Y J n S Y J v vd (List.replicate B.T (.pointer none)) (List.replicate B.T (.int .i64 0)) := by
  have none' : ∀ (k : Nat) (a : Wk × Nat), Y.ts[k]? = some (some a) → False := fun k a hk => by
    rw [ht, List.getElem?_replicate] at hk
    split at hk <;> cases hk
  refine ⟨h, ?_, ?_, ?_, ?_, fun j a _ => ⟨a, fun k q hk => (none' k q hk).elim⟩, List.length_replicate, List.length_replicate, by rw [ht]; exact List.length_replicate, fun k hk => ?_, fun k T i hk => (none' k _ hk).elim, fun k k' a a' hk => (none' k _ hk).elim⟩
  · rw [hL]
    simp [hl]
  · simp [hl]
  · simp [hl]
  · rw [hd]
    simp [hl, flatD]
  · rw [ht, List.getElem?_replicate] at hk
    rw [List.getElem?_replicate]
    split at hk
    · rename_i hlt
      rw [if_pos hlt]
    · cases hk

theorem Tw.nowC (h : Tw W w l B N Y J n S Z K v vd X M) (u : Int) (hu : Y.now = u) : Calls Tryz.prog 22 #[pt B.yb] w fun r w' => r = .returned (i64 u) ∧ Below w.heap.size w w' := by
  obtain ⟨_, _, _, hA⟩ := h.yd.h
  subst hu
  exact ynow_any hA
theorem Tw.callBusy (h : Tw W w l B N Y J n S Z K v vd X M) (k : Nat) (a : Wk × Nat) (hq : Y.ts[k]? = some (some a)) (kd e x s : Int) (hc : (kd = 0 ∨ kd = 1) ∧ (e = 0 ∨ e = 1)) :
    Calls Tryz.prog 14 #[pt B.yb, i64 k, callV kd e x s] w fun r w' => r = .returned (i64 2) ∧ Below w.heap.size w w' := by
  obtain ⟨_, _, _, hA⟩ := h.yd.h
  exact ycall_busy hA k a hq kd e x s hc
theorem Tw.callOut (h : Tw W w l B N Y J n S Z K v vd X M) (k : Int) (hk : k < 0 ∨ B.t ≤ k) (kd e x s : Int) :
    Calls Tryz.prog 14 #[pt B.yb, i64 k, callV kd e x s] w fun r w' => r = .returned (i64 1) ∧ Below w.heap.size w w' := by
  obtain ⟨_, _, _, hA⟩ := h.yd.h
  exact ycall_out hA k hk kd e x s
theorem Tw.callWrong (h : Tw W w l B N Y J n S Z K v vd X M) (k : Nat) (hk : k < B.T) (kd e x s : Int) (hc : ¬ ((kd = 0 ∨ kd = 1) ∧ (e = 0 ∨ e = 1))) :
    Calls Tryz.prog 14 #[pt B.yb, i64 k, callV kd e x s] w fun r w' => r = .returned (i64 1) ∧ Below w.heap.size w w' := by
  obtain ⟨_, _, _, hA⟩ := h.yd.h
  exact ycall_wrong hA k hk kd e x s hc
theorem Tw.stepOut (h : Tw W w l B N Y J n S Z K v vd X M) (k : Int) (hk : k < 0 ∨ B.t ≤ k) :
    Calls Tryz.prog 18 #[pt B.yb, i64 k] w fun r w' => r = .returned (.bool false) ∧ w = w' := by
  obtain ⟨_, _, _, hA⟩ := h.yd.h
  exact ystep_out hA k hk
theorem Tw.stepNone (h : Tw W w l B N Y J n S Z K v vd X M) (k : Nat) (hk : Y.ts[k]? = some none) :
    Calls Tryz.prog 18 #[pt B.yb, i64 k] w fun r w' => r = .returned (.bool false) ∧ w = w' := by
  obtain ⟨_, _, _, hA⟩ := h.yd.h
  exact ystep_none hA k hk
theorem Tw.busyOut (h : Tw W w l B N Y J n S Z K v vd X M) (k : Int) (hk : k < 0 ∨ B.t ≤ k) :
    Calls Tryz.prog 19 #[pt B.yb, i64 k] w fun r w' => r = .returned (.bool false) ∧ w = w' := by
  obtain ⟨_, _, _, hA⟩ := h.yd.h
  exact busy_out hA k hk
theorem Tw.passRest (h : Tw W w l B N Y J n S Z K v vd X M) (k : Int) (hk : k ≤ 0) :
    Calls Tryz.prog 17 #[pt B.yb, i64 k] w fun r w' => r = .returned (.tuple #[]) ∧ w = w' := by
  obtain ⟨_, _, _, hA⟩ := h.yd.h
  exact ypass_rest hA k hk
/-- A call is begun. -/
theorem Tw.callIdle (h : Tw W w l B N Y J n S Z K v vd X M) (hn : n < 1000000) (k : Nat) (hq : Y.ts[k]? = some none) (take : Bool) {kd : Int} (hkd : kdI take = kd) (e x s : Int) (he : e = 0 ∨ e = 1) (x0 : 0 ≤ x) (x1 : x ≤ 18446744073709551615) :
    Calls Tryz.prog 14 #[pt B.yb, i64 k, callV kd e x s] w fun r w' => r = .returned (i64 0) ∧ ∃ l' J', Tw W w' l' B N (Y.call k kd e x s (wkB B N k take e x s)) J' (n + 1) S Z K v vd X M ∧ YGo Y (Y.call k kd e x s (wkB B N k take e x s)) l l' J J' := by
  have hk : k < B.T := by have := (List.getElem?_eq_some_iff.1 hq).1; have := h.yd.ok.len; omega
  refine (h.yd.call hn k hk take hkd e x s he x0 x1).mono ?_
  rintro r w' ⟨l', J', Y', h1, h2, ⟨_, _, a, h3⟩ | ⟨rfl, _, rfl⟩⟩
  · rw [hq] at h3
    cases h3
  · exact ⟨rfl, l', J', h.go h1 h2, h2⟩
/-- Time goes by. -/
theorem Tw.pass (h : Tw W w l B N Y J n S Z K v vd X M) (hn : n < 1000000) (m : Int) (hm : 0 ≤ m) (hY : Y.now + m ≤ yMax) :
    Calls Tryz.prog 17 #[pt B.yb, i64 m] w fun r w' => r = .returned (.tuple #[]) ∧ ∃ l', Tw W w' l' B N { Y with now := Y.now + m } J (n + 1) S Z K v vd X M ∧ YGo Y { Y with now := Y.now + m } l l' J J := by
  obtain ⟨v1, vd1, X1, hA⟩ := h.yd.h
  rcases (by omega : m = 0 ∨ 0 < m) with rfl | hm0
  · refine (ypass_rest hA 0 (Int.le_refl _)).mono ?_
    rintro r w' ⟨rfl, rfl⟩
    have e : ({ Y with now := Y.now + 0 } : Yd) = Y := by rw [Int.add_zero]
    rw [e]
    exact ⟨rfl, l, h.rest1 hn, YGo.refl _ _ _⟩
  · refine (ypass_any hA m hm0 h.yd.ok.now0 h.yd.ok.now1).mono ?_
    rintro r w' ⟨rfl, l', hl', hle, hke⟩
    have e : Y.pass m = { Y with now := Y.now + m } := by
      unfold Yd.pass
      rw [if_neg (by omega)]
    have g := pass_go (Y := Y) (J := J) (n := m) hle hke
    have hy := h.yd.next hn (.pass m hm0) ⟨_, _, _, hl'⟩
    rw [e] at g hy
    exact ⟨rfl, l', h.go hy g, g⟩
/-- A step of the yard. -/
theorem Tw.step (h : Tw W w l B N Y J n S Z K v vd X M) (hn : n < 1000000) (k : Nat) (T : Wk) (i : Nat) (hq : Y.ts[k]? = some (some (T, i))) :
    Calls Tryz.prog 18 #[pt B.yb, i64 k] w fun r w' => r = .returned (.bool true) ∧ ∃ z l', T.ask Y.C z ∧ Tw W w' l' B N (Y.step (plOf B N k) k T i z) J (n + 1) S Z K v vd X M := by
  obtain ⟨v1, vd1, X1, hA⟩ := h.yd.h
  refine (ystep_any hA h.yd.ok hn hq).mono ?_
  rintro r w' ⟨rfl, z, hz, l', hl', hs⟩
  exact ⟨rfl, z, l', hz, h.go (h.yd.next hn (.step k T i z hq hz) hl') (YStay.go (J' := J) hs hq (step_ts hq))⟩
theorem Tw.busyC (h : Tw W w l B N Y J n S Z K v vd X M) (k : Nat) (b : Bool) (hb : ∃ q, Y.ts[k]? = some q ∧ q.isSome = b) : Calls Tryz.prog 19 #[pt B.yb, i64 k] w fun r w' => r = .returned (.bool b) ∧ w = w' := h.yd.busy k b hb

/-- A step of a task of the books. -/
theorem Tw.tstep (h : Tw W w l B N Y J n S Z K v vd X M) {P : Pl} {A i b : Nat} {T : Wk} {now : Int} (hw : Z.ts[A]? = some (some (T, i))) (hX : X[A]? = some (pt b)) (hk : T.Ok P Z.C) (n0 : 0 ≤ now) (hL : Z.L.length < 1000000000) :
    Calls Tryz.prog 20 #[pt b, pt S.p, i64 now] w fun r w' => ∃ z, T.ask Z.C z ∧ r = .returned (.bool ((T.step P Z.C now z).ph != 0)) ∧ ∃ l' v', Tw W w' l' B N Y J n S { Z with C := T.cells P Z.C now, L := Z.L ++ T.ev P Z.C now, ts := Z.ts.set A (some (T.step P Z.C now z, i)) } K v' vd X M := by
  obtain ⟨y, a, b1, c, d, e, f⟩ := h.sd.busy A T i hw
  rw [hX] at a
  obtain rfl : b = y.b := by injection a with a; injection a with a; injection a with a; injection a
  subst f
  refine (h.hold.tstep 4 (K A) (by omega) h.sd.mem d hk n0 hL).mono ?_
  rintro r w' ⟨z, hz, hr, v', B', hH⟩
  exact ⟨z, hz, hr, _, v', h.gone (y' := ⟨y.b, B', y.kd, y.e, y.x, y.s, y.T.step P Z.C now z⟩) hw d rfl rfl hX hH⟩
theorem Tw.treply (h : Tw W w l B N Y J n S Z K v vd X M) {P : Pl} {A i b : Nat} {T : Wk} (hw : Z.ts[A]? = some (some (T, i))) (hX : X[A]? = some (pt b)) (hk : T.Ok P Z.C) :
    Calls Tryz.prog 21 #[pt b] w fun r w' => r = .returned T.reply ∧ Below w.heap.size w w' := by
  obtain ⟨y, a, b1, c, d, e, f⟩ := h.sd.busy A T i hw
  rw [hX] at a
  obtain rfl : b = y.b := by injection a with a; injection a with a; injection a with a; injection a
  subst f
  exact (h.hold.task 4 (K A) (by omega) h.sd.mem d).reply hk
theorem Tw.tnew (h : Tw W w l B N Y J n S Z K v vd X M) (k : Nat) (hk : k < B.T) (take : Bool) {kd : Int} (hkd : kdI take = kd) (e x s : Int) (he : e = 0 ∨ e = 1) :
    Calls Tryz.prog 16 #[cf B.t B.s B.so B.d, i64 k, callV kd e x s] w fun r w' => ∃ b B1, r = .returned (pt b) ∧ Hold W w' (l ++ [wT W.heap.size ⟨b, B1, kd, e, x, s, wkB B N k take e x s⟩]) ∧ Below w.heap.size w w' := by
  obtain ⟨m0, m1⟩ := h.yd.cf.own h.yd.hT hk
  refine (h.hold.tnew (x := x) (start := s) take hkd h.yd.cf.lay (by omega) (by have := h.yd.hT; omega) rfl m0 m1 he).mono ?_
  rintro r w' ⟨b, B1, h1, h2, h3, _⟩
  exact ⟨b, B1, h1, h2, h3⟩
/-- What a thread has in both. -/
theorem Tw.at' (h : Tw W w l B N Y J n S Z K v vd X M) {A i : Nat} {T : Wk} (hw : Z.ts[A]? = some (some (T, i))) : ∃ b, X[A]? = some (pt b) ∧ M[A]? = some (i64 i) := by
  obtain ⟨y, a, b, _⟩ := h.sd.busy A T i hw
  exact ⟨y.b, a, b⟩
/-- A struct beside it all. -/
theorem Tw.more (h : Tw W w l B N Y J n S Z K v vd X M) {A : Thing} (e : Below w.heap.size w w') (ok : A.Ok W.heap.size) (hP : A.P w') (hF : ∀ q, A.F q → w.heap.size ≤ q) : Tw W w' (l ++ [A]) B N Y J n S Z K v vd X M ∧ Rest Y (l ++ [A]) J l.length A :=
  ⟨h.go (h.yd.more e ok hP hF) (YGo.more _ _ _ _), h.yd.rest A⟩
theorem Tw.box (h : Tw W w l B N Y J n S Z K v vd X M) (xs : List Value) (t : TypeId) : Tw W (w.alloc (.cells ⟨xs⟩ t)) (l ++ [tObj W.heap.size w.heap.size xs]) B N Y J n S Z K v vd X M ∧ Rest Y (l ++ [tObj W.heap.size w.heap.size xs]) J l.length (tObj W.heap.size w.heap.size xs) ∧ 8 ≤ l.length :=
  have h1 := h.more (A := tObj W.heap.size w.heap.size xs) (below_new (Below.refl _ _) (.cells ⟨xs⟩ t)) (tObj_ok _ _ _) ⟨IsObj.made w xs t, h.hold.size⟩ (fun q hq => by cases hq; exact Nat.le_refl _)
  ⟨h1.1, h1.2, h.sd.len⟩
theorem Tw.boxAt (h : Tw W w l B N Y J n S Z K v vd X M) {j b : Nat} {xs : List Value} (hr : Rest Y l J j (tObj W.heap.size b xs)) : IsObj w b xs := (h.hold.has _ _ hr.at').1
theorem Tw.boxNe (h : Tw W w l B N Y J n S Z K v vd X M) {j b : Nat} {xs : List Value} (hr : Rest Y l J j (tObj W.heap.size b xs)) (hj : 8 ≤ j) : S.tb ≠ b ∧ S.mb ≠ b :=
  ⟨fun e => h.hold.apart 5 j _ _ h.sd.row hr.at' (by omega) S.tb rfl e, fun e => h.hold.apart 6 j _ _ h.sd.mine hr.at' (by omega) S.mb rfl e⟩
theorem step_now {P : Pl} {k i : Nat} {T : Wk} {z : Int} (h : Y.now + 1 ≤ yMax) : (Y.step P k T i z).now = Y.now + 1 := by
  show Y.tick = _
  unfold Yd.tick
  rw [if_pos (by omega)]
end

end Go.Proofs.YthlmekkijknooaaGreat
