/-
  The contracts of what hist's Right calls: whether a call is right; whether a number is a new one. No condition but that the numbers noted are fewer than a million.
-/
import Derived.Test.YtgoncakjkippkabHistCalls
import Derived.Test.YtgoncakjkippkabRightPure
import Derived.Test.YtgoncakjkippkabIMap
namespace Go.Proofs.Ytgoncakjkippkab
open Go.RowKit Go.Maps
set_option linter.unusedVariables false

theorem IMap.keep {P : Program} {kt et : TypeId} {kq : IntKind} {w w' : World} {b n : Nat} {F : Int → Int} {M : Int → Bool} {T : Nat → Prop} (h : IMap P kt et kq w b n F M) (k : Keep T w w') (hn : ¬ T b) : IMap P kt et kq w' b n F M := by
  have hl := h.lt
  obtain ⟨D, ⟨es, clock, h1, h2⟩, hD⟩ := h
  exact ⟨D, ⟨es, clock, (k.block b hl hn).trans h1, h2⟩, hD⟩
theorem AtBd.keep {w w' : World} {b : Nat} {d : Dd} {T : Nat → Prop} (h : AtBd w b d) (e : Keep T w w') (hr : ¬ T b) : AtBd w' b d :=
  ⟨e.cell h.c0 hr, e.cell h.c1 hr, e.cell h.c2 hr, e.cell h.c3 hr, e.cell h.c4 hr, e.cell h.c5 hr, e.cell h.c6 hr, e.cell h.c7 hr, e.cell h.c8 hr, e.cell h.c9 hr, e.cell h.c10 hr⟩

theorem tcright_any (w : World) (d : Dd) : Calls Try.prog 19 #[.agg #[.int .i64 d.kd, .int .i64 d.e, .int .u64 d.x, .int .i64 d.s]] w fun r w' => r = .returned (.bool (decide (cOk d))) ∧ Below w.heap.size w w' := by
  have hb := below_new (Below.refl w.heap.size w) (.cells #[.int .i64 d.kd, .int .i64 d.e, .int .u64 d.x, .int .i64 d.s] 32)
  have HB := Lib.hid hb
  clear hb
  by_cases h : cOk d
  case pos =>
    have e1 : decide (cOk d) = true := decide_eq_true h
    rw [e1]
    clear e1
    obtain ⟨h1 | h1, h2 | h2⟩ := h
    all_goals
      rw [h1, h2] at HB ⊢
      clear h1 h2
      go_enter Try.func19, Try.ntmps19
      go_wp2_with fail
      go_ret
      exact ⟨rfl, HB.out⟩
  case neg =>
    have e1 : decide (cOk d) = false := decide_eq_false h
    rw [e1]
    clear e1
    by_cases h1 : d.kd = 0 ∨ d.kd = 1
    case neg =>
      have p1 : (d.kd == 0) = false := beq_false_of_ne (fun e => h1 (.inl e))
      have p2 : (d.kd == 1) = false := beq_false_of_ne (fun e => h1 (.inr e))
      clear h h1
      go_enter Try.func19, Try.ntmps19
      go_wp2_with fail
      go_ret
      exact ⟨rfl, HB.out⟩
    case pos =>
      have p1 : (d.e == 0) = false := beq_false_of_ne (fun e => h ⟨h1, .inl e⟩)
      have p2 : (d.e == 1) = false := beq_false_of_ne (fun e => h ⟨h1, .inr e⟩)
      clear h
      rcases h1 with h1 | h1
      all_goals
        rw [h1] at HB ⊢
        clear h1
        go_enter Try.func19, Try.ntmps19
        go_wp2_with fail
        go_ret
        exact ⟨rfl, HB.out⟩

/-- m[k] = c as a step of a drawn region. -/
theorem step_im_put {P : Program} {t' kt et : TypeId} {kq : IntKind} {w : World} {b n : Nat} {F : Int → Int} {M : Int → Bool} {ops : Array Oper} {o : Oper} {a : Act} {Q : Exit → Act → World → Prop} {K : Act → World → Prop} {E : Prop} (hg : o.guard = none) (m x v : Operand) (t : TypeId)
    (hop : o.op = Op.mapUpdate t m x v) (ty : MapTy P t kt et kq) (hm : a.eval m = .map (some b)) (h : IMap P kt et kq w b n F M) (hn : n < maxLen) (k c : Int) (hx : a.eval x = .int kq k) (hv : a.eval v = .int .i64 c)
    (hk : (Lit.int kq k).wf = true) (hc : (Lit.int .i64 c).wf = true) (hK : ∀ w', IMap P kt et kq w' b (n + 1) (putF F k c) (putM M k) → w.grownBy w' (some b) → K (a.put o.dst undef) w') : if Region.wanted o (yielded ops a.tmps) = true then Oper.wp P o a w K Q else E := by
  have hw : Region.wanted o (yielded ops a.tmps) = true := by simp [Region.wanted, hg]
  rw [if_pos hw]
  exact wp_im_put m x v t hop ty hm h hn k c hx hv hk hc hK

/-- What Right holds: of each thread its last call; the numbers that were; the box of the latter. -/
structure RS (w0 w : World) (n1 n2 : Nat) (F : Int → Int) (M S : Int → Bool) : Prop where
  below : Below w0.heap.size w0 w
  last : IMap Try.prog 3 3 .i64 w w0.heap.size n1 F M
  mov : ISet Try.prog 3 .i64 w (w0.heap.size + 1) n2 S
  box : w.cell? ⟨w0.heap.size + 2, 0, none⟩ = some (.map (some (w0.heap.size + 1)))
theorem RS.lt {w0 w : World} {n1 n2 : Nat} {F : Int → Int} {M S : Int → Bool} (h : RS w0 w n1 n2 F M S) : w0.heap.size + 2 < w.heap.size := World.block_lt_of_cell? w _ h.box
theorem RS.later {w0 w w' : World} {n1 n2 : Nat} {F : Int → Int} {M S : Int → Bool} (h : RS w0 w n1 n2 F M S) (e : Below w.heap.size w w') : RS w0 w' n1 n2 F M S :=
  ⟨below_step h.below e, h.last.later e, h.mov.later e, (e.cell (p := ⟨w0.heap.size + 2, 0, none⟩) h.lt).trans h.box⟩
theorem RS.keep {w0 w w' : World} {n1 n2 n2' : Nat} {F : Int → Int} {M S S' : Int → Bool} (h : RS w0 w n1 n2 F M S) (e : Keep (fun k => k = w0.heap.size + 1) w w') (hS : ISet Try.prog 3 .i64 w' (w0.heap.size + 1) n2' S') : RS w0 w' n1 n2' F M S' :=
  ⟨below_keep h.below e h.below.size (fun i hi => by have hi : i = _ := hi; omega), h.last.keep e (fun hh => by have : w0.heap.size = w0.heap.size + 1 := hh; omega), hS, e.cell h.box (fun hh => by have : w0.heap.size + 2 = w0.heap.size + 1 := hh; omega)⟩
theorem RS.put {w0 w w' : World} {n1 n1' n2 : Nat} {F F' : Int → Int} {M M' S : Int → Bool} (h : RS w0 w n1 n2 F M S) (e : w.grownBy w' (some w0.heap.size)) (hM : IMap Try.prog 3 3 .i64 w' w0.heap.size n1' F' M') : RS w0 w' n1' n2 F' M' S :=
  ⟨h.below.grown e h.below.size (fun k hk => by cases hk; exact Nat.le_refl _), hM, h.mov.kept e (fun hh => by have := Option.some.inj hh; omega), (World.cell?_of_block (e.block (w0.heap.size + 2) h.lt (fun hh => by have := Option.some.inj hh; omega))).trans h.box⟩
theorem RS.as {w0 w : World} {n1 n2 n2' : Nat} {F F' : Int → Int} {M M' S S' : Int → Bool} (h : RS w0 w n1 n2 F M S) (hF : ∀ k, F k = F' k) (hM : ∀ k, M k = M' k) (hS : ∀ k, S k = S' k) (hn : n2 ≤ n2') : RS w0 w n1 n2' F' M' S' :=
  ⟨h.below, h.last.as hF hM, (h.mov.as hS).mono hn, h.box⟩
end Go.Proofs.Ytgoncakjkippkab
