/-
  Where a script's bytes may be cut off; the laws' layout. No condition.
-/
import Derived.Test.YtpfjommkjkbonaaCodeYes
import Derived.Test.YtpfjommkjkbonaaCodeArgs
import Derived.Test.YtpfjommkjkbonaaCodeBytes
namespace Go.Proofs.Ytpfjommkjkbonaa
open Go.RowKit
set_option linter.unusedVariables false

set_option maxHeartbeats 1000000 in
theorem confl_at (a0 a1 a2 a3 : Int) (w : World) :
    Calls Try.prog 17 #[.int .i64 a0, .int .i64 a1, .int .i64 a2, .int .i64 a3] w fun r w' => r = .returned (cf (1 + a0 % 4) (1 + a1 % 4) (wrap64 ((IntKind.u64.wrap a2).tmod 5)) (a3 % 4)) ∧ Below w.heap.size w w' := by
  have e0 : bits .and .i64 a0 3 = a0 % 4 := by rw [show (3 : Int) = ((3 : Nat) : Int) from rfl, and_i64 a0 3 2 rfl (by decide)]; rfl
  have e1 : bits .and .i64 a1 3 = a1 % 4 := by rw [show (3 : Int) = ((3 : Nat) : Int) from rfl, and_i64 a1 3 2 rfl (by decide)]; rfl
  have e3 : bits .and .i64 a3 3 = a3 % 4 := by rw [show (3 : Int) = ((3 : Nat) : Int) from rfl, and_i64 a3 3 2 rfl (by decide)]; rfl
  go_enter Try.func17, Try.ntmps17
  go_wp2
  exact bodyPost_ret (v := cf (1 + a0 % 4) (1 + a1 % 4) (wrap64 ((IntKind.u64.wrap a2).tmod 5)) (a3 % 4)) (by simp [results, Try.results17, go_sem]) rfl ⟨rfl, below_new (Below.refl _ _) _⟩

theorem src_small {x : Int} (h0 : 0 ≤ x) (h1 : x ≤ 4) : wrap64 ((IntKind.u64.wrap x).tmod 5) = x := by
  have h : IntKind.u64.wrap x = x := by rw [IntKind.wrap_u64]; omega
  rw [h, Int.tmod_eq_emod_of_nonneg h0]
  unfold wrap64
  omega
/-- A beginning of a move's bytes, behind moves, is no script. -/
theorem DecIs.part {a b : List CM} {m : CM} {r r' : List Int} {n e : Int} (ha : ∀ x ∈ a, x.Good) (hm : m.Good) (hr : m.enc = r ++ r') (h0 : r ≠ []) (h1 : r' ≠ []) (hn : a.length < 65536) (h : DecIs (encs a ++ r) b n e) : b = [] ∧ n = ((encs a).length : Int) ∧ e = 3 := by
  have hno : ∀ (x : CM) (s : List Int), x.Good → r ≠ x.enc ++ s := fun x s hx q => by
    have h2 : m.enc ++ [] = x.enc ++ (s ++ r') := by rw [List.append_nil, hr, q, List.append_assoc]
    obtain ⟨e1, e2⟩ := enc_inj hm hx h2
    have h3 : s ++ r' = [] := e2.symm
    exact h1 (List.append_eq_nil_iff.1 h3).2
  cases h with
  | ok _ hg hl hE =>
    have h' : encs a ++ r = encs b ++ [] := by rw [List.append_nil]; exact hE
    rcases encs_cmp ha hg h' with ⟨d, rfl, q⟩ | ⟨d, rfl, q⟩
    · cases d with
      | nil => exact absurd q h0
      | cons x d => exact absurd (by rw [q, encs, List.append_assoc]) (hno x _ (hg x (List.mem_append_right _ List.mem_cons_self)))
    · exact absurd (List.append_eq_nil_iff.1 q.symm).2 h0
  | form ms s hg hl hE hs hns =>
    rcases encs_cmp ha hg hE with ⟨d, rfl, q⟩ | ⟨d, rfl, q⟩
    · cases d with
      | nil => rw [List.append_nil]; exact ⟨rfl, rfl, rfl⟩
      | cons x d => exact absurd (by rw [q, encs, List.append_assoc]) (hno x _ (hg x (List.mem_append_right _ List.mem_cons_self)))
    · cases d with
      | nil => rw [List.append_nil]; exact ⟨rfl, rfl, rfl⟩
      | cons x d => exact absurd (by rw [q, encs, List.append_assoc]) (hns x _ (ha x (List.mem_append_right _ List.mem_cons_self)))
  | many ms x s hg hl hE hx =>
    rcases encs_cmp ha hg hE with ⟨d, rfl, q⟩ | ⟨d, rfl, q⟩
    · cases d with
      | nil => exact absurd q (hno x s hx)
      | cons y d => exact absurd (by rw [q, encs, List.append_assoc]) (hno y _ (hg y (List.mem_append_right _ List.mem_cons_self)))
    · rw [List.length_append] at hn
      omega
theorem DecPost.part {w' : World} {base : Nat} {v : Value} {n e t s so d : Int} {a : List CM} {m : CM} {r r' l : List Int} (h : DecPost w' base l v n e) (hl : l = t :: s :: so :: d :: (encs a ++ r)) (hc : rightC t s so d = true) (ha : ∀ x ∈ a, x.Good) (hm : m.Good) (hr : m.enc = r ++ r') (h0 : r ≠ []) (h1 : r' ≠ []) (hn : a.length < 65536) :
    e = 3 ∧ n = 4 + ((encs a).length : Int) ∧ v = scV 0 0 0 0 (.slice none 0 0) := by
  cases h with
  | short h =>
    rw [hl] at h
    simp at h
    omega
  | conf t' s' so' d' r2 h hr' =>
    rw [hl] at h
    simp only [List.cons.injEq] at h
    obtain ⟨rfl, rfl, rfl, rfl, _⟩ := h
    rw [hc] at hr'
    cases hr'
  | bad t' s' so' d' r2 n' e' h hr' hd he =>
    rw [hl] at h
    simp only [List.cons.injEq] at h
    obtain ⟨rfl, rfl, rfl, rfl, rfl⟩ := h
    obtain ⟨_, e1, e2⟩ := hd.part ha hm hr h0 h1 hn
    exact ⟨e2, by omega, rfl⟩
  | ok t' s' so' d' r2 ms' A cp h hr' hd ho =>
    rw [hl] at h
    simp only [List.cons.injEq] at h
    obtain ⟨rfl, rfl, rfl, rfl, rfl⟩ := h
    exact absurd (hd.part ha hm hr h0 h1 hn).2.2 (by decide)

/-- Where the i-th move begins. -/
def stAt (ms : List CM) (i : Nat) : Nat := 4 + (encs (ms.take i)).length
theorem stAt_succ {ms : List CM} {i : Nat} {m : CM} (h : ms[i]? = some m) : stAt ms (i + 1) = stAt ms i + m.enc.length := by
  unfold stAt
  rw [List.take_add_one, h, show (some m).toList = [m] from rfl, encs_snoc, List.length_append]
  omega
theorem stAt_mono {ms : List CM} : ∀ {i j : Nat}, i < j → j ≤ ms.length → stAt ms i < stAt ms j
  | i, 0, h, _ => by omega
  | i, j + 1, h, hj => by
    obtain ⟨m, hm⟩ : ∃ m, ms[j]? = some m := ⟨_, List.getElem?_eq_getElem (by omega)⟩
    have e := stAt_succ hm
    have l := enc_len m
    by_cases q : i = j
    · subst q
      omega
    · have := stAt_mono (ms := ms) (i := i) (j := j) (by omega) (by omega)
      omega
/-- Is the cut at the end, or at a beginning among the first j? -/
def whB (ms : List CM) (c : Nat) : Nat → Bool
  | 0 => decide (c = stAt ms ms.length)
  | j + 1 => whB ms c j || decide (stAt ms j = c)
/-- The last beginning ahead of it among the first j. -/
def frN (ms : List CM) (c : Nat) : Nat → Nat
  | 0 => 0
  | j + 1 => if stAt ms j < c then stAt ms j else frN ms c j
theorem whB_yes {ms : List CM} {c : Nat} : ∀ {j : Nat}, j ≤ ms.length → whB ms c j = true → ∃ k, k ≤ ms.length ∧ c = stAt ms k
  | 0, _, h => ⟨ms.length, Nat.le_refl _, of_decide_eq_true h⟩
  | j + 1, hj, h => by
    unfold whB at h
    rcases (Bool.or_eq_true _ _).mp h with h | h
    · exact whB_yes (by omega) h
    · exact ⟨j, by omega, (of_decide_eq_true h).symm⟩
theorem whB_no {ms : List CM} {c : Nat} : ∀ {j : Nat}, whB ms c j = false → c ≠ stAt ms ms.length ∧ ∀ k, k < j → stAt ms k ≠ c
  | 0, h => ⟨of_decide_eq_false h, fun k hk => absurd hk (Nat.not_lt_zero _)⟩
  | j + 1, h => by
    unfold whB at h
    obtain ⟨h1, h2⟩ := (Bool.or_eq_false_iff).mp h
    obtain ⟨a, b⟩ := whB_no h1
    refine ⟨a, fun k hk => ?_⟩
    by_cases e : k = j
    · subst e
      exact of_decide_eq_false h2
    · exact b k (by omega)
theorem cut_in {ms : List CM} {c : Nat} (h4 : 4 ≤ c) : ∀ n, n ≤ ms.length → (∀ k, k < n → stAt ms k ≠ c) → c < stAt ms n → ∃ k m, k < n ∧ ms[k]? = some m ∧ stAt ms k < c ∧ c < stAt ms k + m.enc.length
  | 0, _, _, h => by
    unfold stAt at h
    simp [encs] at h
    omega
  | n + 1, hn, hne, h => by
    obtain ⟨m, hm⟩ : ∃ m, ms[n]? = some m := ⟨_, List.getElem?_eq_getElem (by omega)⟩
    have e := stAt_succ hm
    rcases Nat.lt_or_ge (stAt ms n) c with q | q
    · exact ⟨n, m, by omega, hm, q, by omega⟩
    · have := hne n (by omega)
      obtain ⟨k, m', a, b⟩ := cut_in h4 n (by omega) (fun k hk => hne k (by omega)) (by omega)
      exact ⟨k, m', by omega, b⟩
theorem frN_is {ms : List CM} {c k : Nat} {m : CM} (hk : ms[k]? = some m) (h1 : stAt ms k < c) (h2 : c < stAt ms k + m.enc.length) : ∀ n, k < n → n ≤ ms.length → frN ms c n = stAt ms k
  | 0, h, _ => by omega
  | n + 1, h, hn => by
    unfold frN
    by_cases e : k = n
    · subst e
      rw [if_pos h1]
    · have e2 := stAt_succ hk
      have : stAt ms (k + 1) ≤ stAt ms n := by
        by_cases q : k + 1 = n
        · rw [q]
          exact Nat.le_refl _
        · exact Nat.le_of_lt (stAt_mono (by omega) (by omega))
      rw [if_neg (by omega)]
      exact frN_is hk h1 h2 n (by omega) (by omega)
/-- The bytes up to a beginning. -/
theorem take_st {ms : List CM} {t s so d : Int} {k : Nat} (hk : k ≤ ms.length) : ([t, s, so, d] ++ encs ms).take (stAt ms k) = t :: s :: so :: d :: encs (ms.take k) := by
  have e : encs ms = encs (ms.take k) ++ encs (ms.drop k) := by rw [← encs_append, List.take_append_drop]
  have e2 : [t, s, so, d] ++ encs ms = (t :: s :: so :: d :: encs (ms.take k)) ++ encs (ms.drop k) := by
    rw [e]
    rfl
  rw [e2, show stAt ms k = (t :: s :: so :: d :: encs (ms.take k)).length by unfold stAt; simp only [List.length_cons]; omega, List.take_left]
theorem take_in {ms : List CM} {t s so d : Int} {k c : Nat} {m : CM} (hk : ms[k]? = some m) (h1 : stAt ms k < c) (h2 : c < stAt ms k + m.enc.length) : ∃ r r', m.enc = r ++ r' ∧ r ≠ [] ∧ r' ≠ [] ∧ ([t, s, so, d] ++ encs ms).take c = t :: s :: so :: d :: (encs (ms.take k) ++ r) := by
  have hd : ms.drop k = m :: ms.drop (k + 1) := by
    obtain ⟨hi, hg⟩ := List.getElem?_eq_some_iff.1 hk
    rw [List.drop_eq_getElem_cons hi, hg]
  have e : encs ms = encs (ms.take k) ++ (m.enc ++ encs (ms.drop (k + 1))) := by
    rw [show encs ms = encs (ms.take k ++ ms.drop k) by rw [List.take_append_drop], encs_append, hd, encs]
  obtain ⟨q, hq⟩ : ∃ q, c = stAt ms k + q := ⟨c - stAt ms k, by omega⟩
  have q0 : 0 < q := by omega
  have q1 : q < m.enc.length := by omega
  refine ⟨m.enc.take q, m.enc.drop q, (List.take_append_drop q m.enc).symm, fun h => ?_, fun h => ?_, ?_⟩
  · have := congrArg List.length h
    rw [List.length_take, List.length_nil] at this
    omega
  · have := congrArg List.length h
    rw [List.length_drop, List.length_nil] at this
    omega
  · have e2 : [t, s, so, d] ++ encs ms = (t :: s :: so :: d :: encs (ms.take k)) ++ (m.enc ++ encs (ms.drop (k + 1))) := by
      rw [e]
      rfl
    have hl : (t :: s :: so :: d :: encs (ms.take k)).length = stAt ms k := by unfold stAt; simp only [List.length_cons]; omega
    rw [e2, hq, ← hl, List.take_length_add_append, List.take_append_of_le_length (by omega)]
    rfl
/-- The row of beginnings. -/
def stL (ms : List CM) (n : Nat) : List Value := (List.range n).map (fun k => i64 (stAt ms k : Nat))
theorem stL_len (ms : List CM) (n : Nat) : (stL ms n).length = n := by unfold stL; simp
theorem stL_at {ms : List CM} {n j : Nat} (h : j < n) : (stL ms n)[j]? = some (i64 (stAt ms j : Nat)) := by
  unfold stL
  rw [List.getElem?_map, List.getElem?_range h]
  rfl
theorem stL_snoc (ms ms' : List CM) (n : Nat) (h : ∀ k, k < n → stAt ms k = stAt ms' k) (x : Int) (hx : x = (stAt ms' n : Nat)) : stL ms n ++ [i64 x] = stL ms' (n + 1) := by
  unfold stL
  rw [List.range_succ, List.map_append]
  congr 1
  · exact List.map_congr_left (fun k hk => by rw [h k (List.mem_range.1 hk)])
  · show [i64 x] = [i64 _]
    rw [hx]
theorem stAt_take {ms : List CM} {i k : Nat} (h : k ≤ i) : stAt (ms.take i) k = stAt ms k := by
  unfold stAt
  rw [List.take_take, Nat.min_eq_left h]
theorem own_cap8 {w : World} {base : Nat} {e : TypeId} {sz n cap : Nat} {A : Option Addr} {xs : List Value} (h : w.ownsRow base e sz (.slice A n cap) n xs) : n ≤ cap := by
  rcases h.2 with ⟨hv, h0⟩ | ⟨g, cap', cur, hv, _, _, hc, _⟩
  · omega
  · cases hv
    exact hc
theorem mki0 {W : World} {g base : Nat} (hg : W.heap.size = g) (hb : base ≤ g) : (W.alloc (.cells #[] 3)).ownsRow base 3 1 (.slice (some ⟨g, 0, none⟩) 0 0) 0 [] := by
  subst hg
  exact ⟨rfl, .inr ⟨W.heap.size, 0, #[], rfl, hb, heap_alloc_new W _, Nat.le_refl _, by unfold maxLen; decide, rfl, rfl⟩⟩
theorem srci_at' (w : World) (c : Nat) (x : Int) (hb : c = w.heap.size) : Src (w.alloc (.cells #[.int .i64 x] 3)) 1 (some ⟨c, 0, none⟩) 1 [i64 x] := by
  subst hb
  exact src_list w [i64 x] _ 1 1 rfl (one_int _ _)
end Go.Proofs.Ytpfjommkjkbonaa
