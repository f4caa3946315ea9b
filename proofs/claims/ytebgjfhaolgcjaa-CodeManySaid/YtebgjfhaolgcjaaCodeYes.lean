/-
  Rows of bytes as arguments; what Encode and Decode answer of moves that are right. No condition.
-/
import Derived.Test.YtebgjfhaolgcjaaCodeDec
import Derived.Test.YtebgjfhaolgcjaaFlat
namespace Go.Proofs.Ytebgjfhaolgcjaa
open Go.RowKit
set_option linter.unusedVariables false

/-- A row of bytes as an argument. -/
structure Row8 (w : World) (A : Option Addr) (l : List Int) : Prop where
  at' : IsAt w A (l.map u8)
  byt : Byt l
theorem Row8.later {w w' : World} {A : Option Addr} {l : List Int} (h : Row8 w A l) (e : Below w.heap.size w w') : Row8 w' A l := ⟨h.at'.later e, h.byt⟩
theorem Row8.own {w : World} {base n cap : Nat} {A : Option Addr} {l : List Int} (h : w.ownsRow base 5 1 (.slice A n cap) n (l.map u8)) (hb : Byt l) : Row8 w A l := ⟨IsAt.own h, hb⟩

theorem isat_one (w : World) (m : CM) : IsAt (w.alloc (m.obj 37)) (some ⟨w.heap.size, 0, none⟩) (flatM [m]) := fun _ =>
  ⟨w.heap.size, 0, rfl, by simp, fun j u hj => by
    rw [Nat.zero_add]
    have h := (IsObj.made w m.list 37).at' j u (by rw [flatM, flatM, List.append_nil] at hj; exact hj)
    exact h⟩
/-- What Encode answers of moves that are right. -/
theorem EncIs.yes {w' : World} {base : Nat} {t s so d : Int} {ms : List CM} {v : Value} {e : Int} (h : EncIs w' base t s so d ms v e) (hr : rightC t s so d = true) (hn : ms.length ≤ 65536) (hm : ∀ m ∈ ms, m.Right) : e = 0 ∧ Own8 w' base v ([t, s, so, d] ++ encs ms) := by
  cases h with
  | conf h => rw [hr] at h; cases h
  | many _ h => omega
  | arg _ _ h => obtain ⟨m, h1, h2⟩ := h; exact absurd (hm m h1) h2
  | ok _ _ _ _ ho => exact ⟨rfl, ho⟩
theorem byt_cons {a : Int} {l : List Int} (h0 : 0 ≤ a) (h1 : a ≤ 255) (hl : Byt l) : Byt (a :: l) := fun b hb => by
  rcases List.mem_cons.1 hb with rfl | hb
  · exact ⟨h0, h1⟩
  · exact hl b hb
theorem byt_script {t s so d : Int} {ms : List CM} (hr : rightC t s so d = true) (hm : ∀ m ∈ ms, m.Right) : Byt ([t, s, so, d] ++ encs ms) := by
  have h := of_decide_eq_true hr
  exact byt_cons (by omega) (by omega) (byt_cons (by omega) (by omega) (byt_cons (by omega) (by omega) (byt_cons (by omega) (by omega) (encs_byte hm))))

theorem rows_bytes {w : World} {A : Option Addr} {len cap : Nat} (h : IsRows w [.inl .u8] A len cap) : ∃ l : List Int, l.length = len ∧ len ≤ cap ∧ Row8 w A l := by
  obtain ⟨h1, h2, h3, h4, h5⟩ := h
  rcases Nat.eq_zero_or_pos len with h0 | hl
  · subst h0
    exact ⟨[], rfl, h1, IsAt.nil _ _, fun b hb => by cases hb⟩
  · obtain ⟨b, off, rfl⟩ := h4 hl
    have hx : ∀ i, ∃ n : Int, i < len → w.cell? ⟨b, off + i, none⟩ = some (u8 n) ∧ 0 ≤ n ∧ n ≤ 255 := fun i => by
      by_cases hi : i < len
      · obtain ⟨cs, hf, hc⟩ := h5 b off rfl i hi
        obtain ⟨c0, l0, rfl, r0, f0⟩ := fit_cons hf
        obtain ⟨n, rfl, g⟩ := r0
        refine ⟨n, fun _ => ⟨?_, bounds_u8 g⟩⟩
        have := hc 0 _ rfl
        simp only [List.length_cons, List.length_nil, Nat.zero_add, Nat.mul_one, Nat.add_zero] at this
        exact this
      · exact ⟨0, fun h => absurd h hi⟩
    obtain ⟨X, hX⟩ := Classical.axiomOfChoice hx
    have hat : ∀ j, j < len → ((List.range len).map X)[j]? = some (X j) := fun j hj => by
      rw [List.getElem?_map, List.getElem?_range hj]
      rfl
    refine ⟨(List.range len).map X, by simp, h1, fun _ => ⟨b, off, rfl, World.block_lt_of_cell? w _ (hX 0 hl).1, fun j u hj => ?_⟩, fun n hn => ?_⟩
    · have hjl : j < len := by
        have := (List.getElem?_eq_some_iff.1 hj).1
        simpa using this
      rw [List.getElem?_map, hat j hjl] at hj
      cases hj
      exact (hX j hjl).1
    · obtain ⟨i, hi, rfl⟩ := List.mem_map.1 hn
      exact (hX i (List.mem_range.1 hi)).2

theorem DecIs.yes {l : List Int} {ms : List CM} {n e : Int} (h : DecIs l ms n e) (he : e = 0) : (∀ m ∈ ms, m.Good) ∧ ms.length ≤ 65536 ∧ l = encs ms := by
  cases h with
  | ok _ h1 h2 h3 => exact ⟨h1, h2, h3⟩
  | form _ _ _ _ _ _ _ => exact absurd he (by decide)
  | many _ _ _ _ _ _ _ => exact absurd he (by decide)
/-- What Decode answers of moves that are right. -/
theorem DecPost.yes {w' : World} {base : Nat} {l : List Int} {v : Value} {n e t s so d : Int} {ms : List CM} (h : DecPost w' base l v n e) (hl : l = t :: s :: so :: d :: encs ms) (hr : rightC t s so d = true) (hg : ∀ m ∈ ms, m.Good) (hn : ms.length ≤ 65536) :
    e = 0 ∧ n = (l.length : Int) ∧ ∃ A cp, v = scV t s so d (.slice A ms.length cp) ∧ w'.ownsRow base 37 7 (.slice A ms.length cp) ms.length (flatM ms) := by
  cases h with
  | short h =>
    rw [hl] at h
    simp at h
    omega
  | conf t' s' so' d' r' h hr' =>
    rw [hl] at h
    simp only [List.cons.injEq] at h
    obtain ⟨rfl, rfl, rfl, rfl, _⟩ := h
    rw [hr] at hr'
    cases hr'
  | bad t' s' so' d' r' n' e' h hr' hd he =>
    rw [hl] at h
    simp only [List.cons.injEq] at h
    obtain ⟨rfl, rfl, rfl, rfl, rfl⟩ := h
    exact absurd (hd.of hg hn).2.2 he
  | ok t' s' so' d' r' ms' A cp h hr' hd ho =>
    rw [hl] at h
    simp only [List.cons.injEq] at h
    obtain ⟨rfl, rfl, rfl, rfl, rfl⟩ := h
    obtain ⟨rfl, _⟩ := hd.of hg hn
    exact ⟨rfl, rfl, A, cp, rfl, ho⟩

end Go.Proofs.Ytebgjfhaolgcjaa
