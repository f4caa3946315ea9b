/-
  The contract of 'same' of package stackyardlaw03, for two lists of the same events; lists of acts and of events as they came in. No condition.
-/
import Derived.Test.YteokinaneilgjaaMemDo
namespace Go.Proofs.Yteokinaneilgjaa
open Go.RowKit
set_option linter.unusedVariables false

/-- A list of events lies at A. -/
def AtE (w : World) (A : Option Addr) (L : List Ev) : Prop :=
  L ≠ [] → ∃ b o, A = some ⟨b, o, none⟩ ∧ b < w.heap.size ∧ ∀ i e, L[i]? = some e → w.cell? ⟨b, o + i * 6, none⟩ = some (i64 e.who) ∧ w.cell? ⟨b, o + i * 6 + 1, none⟩ = some (i64 e.op) ∧ w.cell? ⟨b, o + i * 6 + 2, none⟩ = some (i64 e.cell) ∧
    w.cell? ⟨b, o + i * 6 + 3, none⟩ = some (u64 e.old) ∧ w.cell? ⟨b, o + i * 6 + 4, none⟩ = some (u64 e.new) ∧ w.cell? ⟨b, o + i * 6 + 5, none⟩ = some (.bool e.ok)

theorem AtE.later {w w' : World} {A : Option Addr} {L : List Ev} (h : AtE w A L) (hb : Below w.heap.size w w') : AtE w' A L := fun hne => by
  obtain ⟨b, o, rfl, hl, hc⟩ := h hne
  refine ⟨b, o, rfl, Nat.lt_of_lt_of_le hl hb.size, fun i e he => ?_⟩
  obtain ⟨h0, h1, h2, h3, h4, h5⟩ := hc i e he
  have k : ∀ j, w'.cell? ⟨b, j, none⟩ = w.cell? ⟨b, j, none⟩ := fun j => hb.cell (p := ⟨b, j, none⟩) hl
  exact ⟨(k _).trans h0, (k _).trans h1, (k _).trans h2, (k _).trans h3, (k _).trans h4, (k _).trans h5⟩

theorem flatE_at : ∀ (L : List Ev) (i : Nat) (e : Ev), L[i]? = some e → ∀ j u, e.cells[j]? = some u → (flatE L)[i * 6 + j]? = some u
  | [], i, e, h, _, _, _ => by simp at h
  | f :: L, 0, e, h, j, u, hj => by
    simp only [List.getElem?_cons_zero, Option.some.injEq] at h
    subst h
    have hl : j < f.cells.length := (List.getElem?_eq_some_iff.1 hj).1
    rw [flatE, Nat.zero_mul, Nat.zero_add, List.getElem?_append_left hl]
    exact hj
  | f :: L, i + 1, e, h, j, u, hj => by
    have ih := flatE_at L i e (by simpa using h) j u hj
    have hl : f.cells.length = 6 := rfl
    rw [flatE, List.getElem?_append_right (by omega), hl, show (i + 1) * 6 + j - 6 = i * 6 + j by omega]
    exact ih

/-- An own row of events. -/
theorem AtE.row {w : World} {base : Nat} {A : Option Addr} {cap : Nat} {L : List Ev} (h : w.ownsRow base 35 6 (.slice A L.length cap) L.length (flatE L)) : AtE w A L := fun hne => by
  rcases h.2 with ⟨_, h0⟩ | ⟨g, cap', cur, hv, hg, hh, _⟩
  · exact absurd (List.eq_nil_of_length_eq_zero h0) hne
  · cases hv
    refine ⟨g, 0, rfl, (h.lt g rfl).2, fun i e he => ?_⟩
    have hi := (List.getElem?_eq_some_iff.1 he).1
    have k : ∀ j u, e.cells[j]? = some u → w.cell? ⟨g, 0 + i * 6 + j, none⟩ = some u := fun j u hj => by
      have hjl : j < e.cells.length := (List.getElem?_eq_some_iff.1 hj).1
      have hjl' : e.cells.length = 6 := rfl
      rw [show 0 + i * 6 + j = i * 6 + j by omega, h.cellAt (i * 6 + j) (by omega)]
      exact flatE_at L i e he j u hj
    exact ⟨k 0 _ rfl, k 1 _ rfl, k 2 _ rfl, k 3 _ rfl, k 4 _ rfl, k 5 _ rfl⟩

set_option maxHeartbeats 2000000 in
theorem same_yes (w : World) (A1 A2 : Option Addr) (c1 c2 : Nat) (L : List Ev) (h1 : AtE w A1 L) (h2 : AtE w A2 L) (hL : L.length ≤ 1000000000) :
    Calls Try.prog 20 #[.slice A1 L.length c1, .slice A2 L.length c2] w fun r w' => r = .returned (.bool true) ∧ Below w.heap.size w w' := by
  have H1 := Lib.hid h1
  have H2 := Lib.hid h2
  clear h1 h2
  go_enter Try.func20, Try.ntmps20
  go_wp2_with fail
  go_loopw [13] (fun i wr => ∃ n : Nat, n ≤ L.length ∧ i = .int .i64 n ∧ Below w.heap.size w wr) (fun i _ => L.length - (intOf i).toNat)
  case atStart => exact ⟨0, by omega, rfl, Below.refl _ _⟩
  case round =>
    obtain ⟨n, hn, rfl, hB⟩ := hrel
    rcases Nat.lt_or_ge n L.length with hlt | hge
    · obtain ⟨e, he⟩ : ∃ e, L[n]? = some e := ⟨_, List.getElem?_eq_getElem hlt⟩
      have hne : L ≠ [] := fun h => by rw [h] at hlt; simp at hlt
      obtain ⟨b1, o1, rfl, _, k1⟩ := (H1.out.later hB) hne
      obtain ⟨b2, o2, rfl, _, k2⟩ := (H2.out.later hB) hne
      obtain ⟨p0, p1, p2, p3, p4, p5⟩ := k1 n e he
      obtain ⟨q0, q1, q2, q3, q4, q5⟩ := k2 n e he
      have m0 : (n : Int) < (L.length : Int) := by omega
      clear k1 k2 he hne
      go_wp2_with fail
      refine wp_region_seq ((0, true) :: (1, true) :: (2, true) :: (3, true) :: (4, true) :: (5, true) :: (6, true) :: (7, true) :: (8, true) :: []) (by kernel_rfl) (by kernel_rfl) (by kernel_rfl) (by decide) (fun _ _ _ _ _ h => h) (fun hHeld => ?_)
      repeat (first
        | (refine seq_take (v := ?_) rfl ?_ ?_ ?_; rotate_left 1; rfl; (focus (intro wS hSw; have hk := below_rule hSw; go_simp; first | done | with_reducible rfl)); (try simp only [Act.put, List.setIfInBounds_toArray, List.set_cons_zero, List.set_cons_succ]))
        | (refine seq_skip rfl ?_ ?_; rfl; (try simp only [Act.put, List.setIfInBounds_toArray, List.set_cons_zero, List.set_cons_succ]))
        | (refine seq_run rfl (fun K hK => ?_); go_simp; (try skip); (try go_wp2_with fail); refine hK.out _ _ ?_ ?_; (focus (first | exact below_step hHeld hb' | exact below_new hHeld _ | exact hHeld)); (try clear hb'); clear hHeld hK K; intro hHeld; (try simp only [Act.put, List.setIfInBounds_toArray, List.set_cons_zero, List.set_cons_succ])))
      first | refine seq_done ?_ | skip
      go_wp2_with fail
      go_roundw
      case rel => exact ⟨n + 1, by omega, by go_num, below_step hB hHeld⟩
      case measure => simp [intOf]; omega
    · obtain rfl : n = L.length := by omega
      go_wp2
      go_ret
      exact ⟨rfl, hB⟩

end Go.Proofs.Yteokinaneilgjaa
