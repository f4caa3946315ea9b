/-
  Contracts of what tells whether a move can be written. No condition.
-/
import Derived.Test.YtebgjfhaolgcjaaCodePure
import Derived.Test.YtebgjfhaolgcjaaLayCalls
namespace Go.Proofs.Ytebgjfhaolgcjaa
open Go.RowKit
set_option linter.unusedVariables false

instance (m : CM) : Decidable m.Right := by unfold CM.Right CM.beg CM.stp CM.pas; infer_instance
/-- Its cells. -/
def CM.list (m : CM) : List Value := [i64 m.k, i64 m.who, i64 m.ck, i64 m.ce, u64 m.v, i64 m.st, i64 m.n]
abbrev CM.val (m : CM) : Value := .agg #[.int .i64 m.k, .int .i64 m.who, .int .i64 m.ck, .int .i64 m.ce, .int .u64 m.v, .int .i64 m.st, .int .i64 m.n]
abbrev CM.obj (m : CM) (T : TypeId) : Obj := .cells #[.int .i64 m.k, .int .i64 m.who, .int .i64 m.ck, .int .i64 m.ce, .int .u64 m.v, .int .i64 m.st, .int .i64 m.n] T
abbrev CM.call (m : CM) : Value := .agg #[.int .i64 m.ck, .int .i64 m.ce, .int .u64 m.v, .int .i64 m.st]

set_option maxHeartbeats 1000000 in
theorem isthread_at (x : Int) (b : Bool) (hb : decide (0 ≤ x ∧ x < 64) = b) (w : World) :
    Calls Try.prog 12 #[i64 x] w fun r w' => r = .returned (.bool b) ∧ w = w' := by
  by_cases h0 : 0 ≤ x
  · by_cases h1 : x < 64
    · obtain rfl : b = true := by rw [← hb]; exact decide_eq_true ⟨h0, h1⟩
      clear hb
      go_enter Try.func12, Try.ntmps12
      go_wp2
      go_ret
      exact ⟨rfl, rfl⟩
    · obtain rfl : b = false := by rw [← hb]; exact decide_eq_false (fun h => h1 h.2)
      clear hb
      go_enter Try.func12, Try.ntmps12
      go_wp2
      go_ret
      exact ⟨rfl, rfl⟩
  · obtain rfl : b = false := by rw [← hb]; exact decide_eq_false (fun h => h0 h.1)
    clear hb
    go_enter Try.func12, Try.ntmps12
    go_wp2
    go_ret
    exact ⟨rfl, rfl⟩

set_option maxHeartbeats 1000000 in
theorem codecall_any (ck ce v s : Int) (b : Bool) (hb : b = true ↔ (ck = 0 ∨ ck = 1) ∧ (ce = 0 ∨ ce = 1)) (w : World) :
    Calls Try.prog 18 #[.agg #[.int .i64 ck, .int .i64 ce, .int .u64 v, .int .i64 s]] w fun r w' => r = .returned (.bool b) ∧ Below w.heap.size w w' := by
  have HB := Lib.hid (below_new (Below.refl w.heap.size w) (.cells #[.int .i64 ck, .int .i64 ce, .int .u64 v, .int .i64 s] 35))
  have yes : (ck = 0 ∨ ck = 1) ∧ (ce = 0 ∨ ce = 1) → b = true := hb.2
  have no : ¬ ((ck = 0 ∨ ck = 1) ∧ (ce = 0 ∨ ce = 1)) → b = false := fun h => by
    cases b
    · rfl
    · exact absurd (hb.1 rfl) h
  clear hb
  by_cases h1 : ck = 0 ∨ ck = 1
  · by_cases h2 : ce = 0 ∨ ce = 1
    · rw [yes ⟨h1, h2⟩]
      clear yes no
      rcases h1 with rfl | rfl <;> rcases h2 with rfl | rfl
      all_goals
        go_enter Try.func18, Try.ntmps18
        go_wp2_with fail
        go_ret
        exact ⟨rfl, HB.out⟩
    · rw [no (fun h => h2 h.2)]
      have p1 : (ce == 0) = false := beq_false_of_ne (fun e => h2 (.inl e))
      have p2 : (ce == 1) = false := beq_false_of_ne (fun e => h2 (.inr e))
      clear yes no h2
      rcases h1 with rfl | rfl
      all_goals
        go_enter Try.func18, Try.ntmps18
        go_wp2_with fail
        go_ret
        exact ⟨rfl, HB.out⟩
  · rw [no (fun h => h1 h.1)]
    have p1 : (ck == 0) = false := beq_false_of_ne (fun e => h1 (.inl e))
    have p2 : (ck == 1) = false := beq_false_of_ne (fun e => h1 (.inr e))
    clear yes no h1
    go_enter Try.func18, Try.ntmps18
    go_wp2_with fail
    go_ret
    exact ⟨rfl, HB.out⟩

def fitsC (ck ce v s : Int) : Prop := (ce = 0 ∨ ce = 1) ∧ ((ck = 0 ∧ s = 0) ∨ (ck = 1 ∧ v = 0 ∧ 0 ≤ s ∧ s ≤ 255))
set_option maxHeartbeats 2000000 in
theorem callfits_any (ck ce v s : Int) (b : Bool) (hb : b = true ↔ fitsC ck ce v s) (w : World) :
    Calls Try.prog 13 #[.agg #[.int .i64 ck, .int .i64 ce, .int .u64 v, .int .i64 s]] w fun r w' => r = .returned (.bool b) ∧ Below w.heap.size w w' := by
  have HB := Lib.hid (below_new (Below.refl w.heap.size w) (.cells #[.int .i64 ck, .int .i64 ce, .int .u64 v, .int .i64 s] 35))
  have yes : fitsC ck ce v s → b = true := hb.2
  have no : ¬ fitsC ck ce v s → b = false := fun h => by
    cases b
    · rfl
    · exact absurd (hb.1 rfl) h
  clear hb
  by_cases h : (ck = 0 ∨ ck = 1) ∧ (ce = 0 ∨ ce = 1)
  · obtain ⟨h1 | h1, h2⟩ := h
    · subst h1
      have hbb : b = decide (s = 0) := by
        by_cases e : s = 0
        · rw [decide_eq_true e]
          exact yes ⟨h2, .inl ⟨rfl, e⟩⟩
        · rw [decide_eq_false e]
          exact no (fun h => by have := h.2; omega)
      rw [hbb]
      clear yes no hbb
      have h2' := Lib.hid h2
      clear h2
      go_enter Try.func13, Try.ntmps13
      go_wp2_with fail
      refine (codecall_any 0 ce v s true ⟨fun _ => ⟨.inl rfl, h2'.out⟩, fun _ => rfl⟩ _).mono ?_
      rintro r w2 ⟨rfl, hb⟩
      have HB2 := Lib.hid (below_step HB.out hb)
      obtain ⟨hc, hf⟩ := bcell hb
      clear HB hb
      go_wp2
      go_ret
      refine ⟨?_, HB2.out⟩
      rfl
    · subst h1
      have HB2 : ∀ w2, Below (w.alloc (.cells #[.int .i64 1, .int .i64 ce, .int .u64 v, .int .i64 s] 35)).heap.size (w.alloc (.cells #[.int .i64 1, .int .i64 ce, .int .u64 v, .int .i64 s] 35)) w2 → Below w.heap.size w w2 := fun w2 h => below_step HB.out h
      have HBB := Lib.hid HB2
      have hno : fitsC 1 ce v s ↔ v = 0 ∧ 0 ≤ s ∧ s ≤ 255 := ⟨fun h => by have := h.2; omega, fun h => ⟨h2, .inr ⟨rfl, h⟩⟩⟩
      rw [hno] at yes no
      have h2' := Lib.hid h2
      clear h2 HB HB2 hno
      have ways : (v = 0 ∧ 0 ≤ s ∧ s ≤ 255 ∧ b = true) ∨ (v = 0 ∧ 0 ≤ s ∧ ¬ s ≤ 255 ∧ b = false) ∨ (v = 0 ∧ ¬ 0 ≤ s ∧ b = false) ∨ (¬ v = 0 ∧ b = false) := by
        by_cases w1 : v = 0
        · by_cases w2 : 0 ≤ s
          · by_cases w3 : s ≤ 255
            · exact .inl ⟨w1, w2, w3, yes ⟨w1, w2, w3⟩⟩
            · exact .inr (.inl ⟨w1, w2, w3, no (fun q => w3 q.2.2)⟩)
          · exact .inr (.inr (.inl ⟨w1, w2, no (fun q => w2 q.2.1)⟩))
        · exact .inr (.inr (.inr ⟨w1, no (fun q => w1 q.1)⟩))
      clear yes no
      rcases ways with ⟨rfl, y2, y3, rfl⟩ | ⟨rfl, y2, y3, rfl⟩ | ⟨rfl, y2, rfl⟩ | ⟨y1, rfl⟩
      all_goals
        go_enter Try.func13, Try.ntmps13
        go_wp2_with fail
        refine (codecall_any 1 ce _ s true ⟨fun _ => ⟨.inr rfl, h2'.out⟩, fun _ => rfl⟩ _).mono ?_
        rintro r w2 ⟨rfl, hb⟩
        have HB2 := Lib.hid (HBB.out _ hb)
        obtain ⟨hc, hf⟩ := bcell hb
        clear HBB hb
        go_wp2
        go_ret
        first
          | exact ⟨rfl, HB2.out⟩
          | exact ⟨congrArg (fun b => Ending.returned (.bool b)) (decide_eq_false (by omega)), HB2.out⟩
          | exact ⟨congrArg (fun b => Ending.returned (.bool b)) (decide_eq_true (by omega)), HB2.out⟩
  · rw [no (fun hh => h ⟨by have := hh.2; omega, hh.1⟩)]
    have h' := Lib.hid h
    clear yes no h
    go_enter Try.func13, Try.ntmps13
    go_wp2_with fail
    refine (codecall_any ck ce v s false ⟨(fun q => by cases q), fun q => absurd q h'.out⟩ _).mono ?_
    rintro r w2 ⟨rfl, hb⟩
    have HB2 := Lib.hid (below_step HB.out hb)
    clear HB hb
    go_wp2
    go_ret
    exact ⟨rfl, HB2.out⟩

set_option maxHeartbeats 4000000 in
theorem mright_any (m : CM) (w : World) : Calls Try.prog 9 #[m.val] w fun r w' => r = .returned (.bool (decide m.Right)) ∧ Below w.heap.size w w' := by
  obtain ⟨k, who, ck, ce, v, s, n⟩ := m
  have HB := Lib.hid (below_new (Below.refl w.heap.size w) ((⟨k, who, ck, ce, v, s, n⟩ : CM).obj 37))
  have yes : (⟨k, who, ck, ce, v, s, n⟩ : CM).Right → decide (⟨k, who, ck, ce, v, s, n⟩ : CM).Right = true := decide_eq_true
  have no : ¬ (⟨k, who, ck, ce, v, s, n⟩ : CM).Right → decide (⟨k, who, ck, ce, v, s, n⟩ : CM).Right = false := decide_eq_false
  unfold CM.val at *
  simp only
  generalize decide (⟨k, who, ck, ce, v, s, n⟩ : CM).Right = b at yes no ⊢
  unfold CM.Right CM.beg CM.stp CM.pas at yes no
  simp only at yes no
  by_cases k0 : k = 0
  · subst k0
    by_cases hw : 0 ≤ who ∧ who < 64
    · by_cases hn : n = 0
      · subst hn
        have hbb : b = true ↔ fitsC ck ce v s := by
          unfold fitsC
          constructor
          · intro hb
            by_cases q : (ce = 0 ∨ ce = 1) ∧ ((ck = 0 ∧ s = 0) ∨ (ck = 1 ∧ v = 0 ∧ 0 ≤ s ∧ s ≤ 255))
            · exact q
            · rw [no (by omega)] at hb
              cases hb
          · intro q
            exact yes (by omega)
        have HBB := Lib.hid hbb
        have HW := Lib.hid hw
        clear yes no hbb hw
        go_enter Try.func9, Try.ntmps9
        go_wp2_with fail
        refine (isthread_at who true (decide_eq_true HW.out) _).mono ?_
        rintro r w2 ⟨rfl, rfl⟩
        go_wp2_with fail
        refine (callfits_any ck ce v s b HBB.out _).mono ?_
        rintro r w2 ⟨rfl, hb⟩
        have HB2 := Lib.hid (below_step HB.out hb)
        clear HB hb
        go_wp2
        go_ret
        exact ⟨rfl, HB2.out⟩
      · rw [no (by omega)]
        have pn : (n == 0) = false := beq_false_of_ne hn
        have HW := Lib.hid hw
        clear yes no hw
        go_enter Try.func9, Try.ntmps9
        go_wp2_with fail
        refine (isthread_at who true (decide_eq_true HW.out) _).mono ?_
        rintro r w2 ⟨rfl, rfl⟩
        go_wp2
        go_ret
        exact ⟨rfl, HB.out⟩
    · rw [no (by omega)]
      have HW := Lib.hid hw
      clear yes no hw
      go_enter Try.func9, Try.ntmps9
      go_wp2_with fail
      refine (isthread_at who false (decide_eq_false HW.out) _).mono ?_
      rintro r w2 ⟨rfl, rfl⟩
      go_wp2
      go_ret
      exact ⟨rfl, HB.out⟩
  · have pk0 : (k == 0) = false := beq_false_of_ne k0
    by_cases k1 : k = 1
    · subst k1
      by_cases hw : 0 ≤ who ∧ who < 64
      · by_cases hz : ck = 0 ∧ ce = 0 ∧ v = 0 ∧ s = 0 ∧ n = 0
        · obtain ⟨rfl, rfl, rfl, rfl, rfl⟩ := hz
          rw [yes (by omega)]
          have HW := Lib.hid hw
          clear yes no hw k0
          go_enter Try.func9, Try.ntmps9
          go_wp2_with fail
          refine (isthread_at who true (decide_eq_true HW.out) _).mono ?_
          rintro r w2 ⟨rfl, rfl⟩
          go_wp2
          go_ret
          exact ⟨rfl, HB.out⟩
        · rw [no (by omega)]
          have HW := Lib.hid hw
          clear yes no hw k0
          rcases (by omega : ¬ ck = 0 ∨ (ck = 0 ∧ ¬ ce = 0) ∨ (ck = 0 ∧ ce = 0 ∧ ¬ v = 0) ∨ (ck = 0 ∧ ce = 0 ∧ v = 0 ∧ ¬ s = 0) ∨ (ck = 0 ∧ ce = 0 ∧ v = 0 ∧ s = 0 ∧ ¬ n = 0)) with c | ⟨rfl, c⟩ | ⟨rfl, rfl, c⟩ | ⟨rfl, rfl, rfl, c⟩ | ⟨rfl, rfl, rfl, rfl, c⟩
          all_goals
            clear hz
            go_enter Try.func9, Try.ntmps9
            go_wp2_with fail
            refine (isthread_at who true (decide_eq_true HW.out) _).mono ?_
            rintro r w2 ⟨rfl, rfl⟩
            go_wp2
            go_ret
            exact ⟨rfl, HB.out⟩
      · rw [no (by omega)]
        have HW := Lib.hid hw
        clear yes no hw k0
        go_enter Try.func9, Try.ntmps9
        go_wp2_with fail
        refine (isthread_at who false (decide_eq_false HW.out) _).mono ?_
        rintro r w2 ⟨rfl, rfl⟩
        go_wp2
        go_ret
        exact ⟨rfl, HB.out⟩
    · have pk1 : (k == 1) = false := beq_false_of_ne k1
      by_cases k2 : k = 2
      · subst k2
        by_cases hn1 : 1 ≤ n
        · by_cases hn2 : n ≤ 65535
          · by_cases hz : who = 0 ∧ ck = 0 ∧ ce = 0 ∧ v = 0 ∧ s = 0
            · obtain ⟨rfl, rfl, rfl, rfl, rfl⟩ := hz
              rw [yes (by omega)]
              clear yes no k0 k1
              go_enter Try.func9, Try.ntmps9
              go_wp2
              go_ret
              exact ⟨rfl, HB.out⟩
            · rw [no (by omega)]
              clear yes no k0 k1
              rcases (by omega : ¬ who = 0 ∨ (who = 0 ∧ ¬ ck = 0) ∨ (who = 0 ∧ ck = 0 ∧ ¬ ce = 0) ∨ (who = 0 ∧ ck = 0 ∧ ce = 0 ∧ ¬ v = 0) ∨ (who = 0 ∧ ck = 0 ∧ ce = 0 ∧ v = 0 ∧ ¬ s = 0)) with c | ⟨rfl, c⟩ | ⟨rfl, rfl, c⟩ | ⟨rfl, rfl, rfl, c⟩ | ⟨rfl, rfl, rfl, rfl, c⟩
              all_goals
                clear hz
                go_enter Try.func9, Try.ntmps9
                go_wp2
                go_ret
                exact ⟨rfl, HB.out⟩
          · rw [no (by omega)]
            clear yes no k0 k1
            go_enter Try.func9, Try.ntmps9
            go_wp2
            go_ret
            exact ⟨rfl, HB.out⟩
        · rw [no (by omega)]
          clear yes no k0 k1
          go_enter Try.func9, Try.ntmps9
          go_wp2
          go_ret
          exact ⟨rfl, HB.out⟩
      · have pk2 : (k == 2) = false := beq_false_of_ne k2
        rw [no (by omega)]
        clear yes no k0 k1 k2
        go_enter Try.func9, Try.ntmps9
        go_wp2
        go_ret
        exact ⟨rfl, HB.out⟩
end Go.Proofs.Ytebgjfhaolgcjaa
