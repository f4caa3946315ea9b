/-
  As many moves as may be, and more: their bytes, and where reading them ends; a row that is made with room; rows of moves as they are made. No condition.
-/
import Derived.Test.YtebgjfhaolgcjaaCodeSame
namespace Go.Proofs.Ytebgjfhaolgcjaa
open Go.RowKit
set_option linter.unusedVariables false

theorem run_make_part {P : Program} (w : World) (base : Nat) (t e : TypeId) (i : TypeInfo) (z : Value) (size : Nat) (ht : P.underlying t = some (.slice e)) (hi : P.info? e = some i) (hz : i.zero = some z) (hsize : i.size = size)
    (kl kc : IntKind) (n m : Nat) (hnm : n ≤ m) (hbytes : i.bytes * m ≤ 281474976710656) (h63 : m ≤ maxLen) (hbase : base ≤ w.heap.size) :
    ∃ w', (Instr.makeSlice t (.int kl (n : Int)) (.int kc (m : Int))).run P w = .ok (.slice (some ⟨w.heap.size, 0, none⟩) n m) w' ∧
      w'.ownsRow base e size (.slice (some ⟨w.heap.size, 0, none⟩) n m) n ((madeCells z.cells (m * size)).toList.take (n * size)) ∧ w.grownBy w' none := by
  subst hsize
  have h63' : (m : Int) ≤ 9223372036854775807 := by
    have h := h63
    simp [maxLen] at h
    omega
  have hb' : (i.bytes : Int) * (m : Int) ≤ 281474976710656 := by
    have h : ((i.bytes * m : Nat) : Int) ≤ 281474976710656 := by omega
    rwa [Int.natCast_mul] at h
  have hr := run_make (P := P) w t e i z ht hi hz kl kc n m (by omega) (by omega) hb' h63'
  simp only [Int.toNat_natCast] at hr
  refine ⟨_, hr, ⟨?_, .inr ⟨w.heap.size, m, _, rfl, hbase, heap_alloc_new w _, hnm, h63, size_madeCells _ _, rfl⟩⟩, World.grownBy_alloc w _ none⟩
  rw [List.length_take, Array.length_toList, size_madeCells]
  have := Nat.mul_le_mul_right i.size hnm
  omega
/-- make with room. -/
theorem list_make_part {P : Program} {ops : Array Oper} {rest : List Oper} {o : Oper} {a : Act} {w : World} {Q : Exit → Act → World → Prop} (hg : o.guard = none) (l c : Operand) (t : TypeId) (hop : o.op = Op.makeSlice t l c)
    (base : Nat) (e : TypeId) (i : TypeInfo) (z : Value) (size : Nat) (h1 : P.underlying t = some (.slice e)) (h2 : P.info? e = some i) (h3 : i.zero = some z) (h4 : i.size = size)
    (kl kc : IntKind) (n m : Nat) (hl : a.eval l = .int kl (n : Int)) (hc : a.eval c = .int kc (m : Int)) (hnm : n ≤ m) (b2 : i.bytes * m ≤ 281474976710656) (b3 : m ≤ maxLen) (b4 : base ≤ w.heap.size)
    (hK : ∀ w', w'.ownsRow base e size (.slice (some ⟨w.heap.size, 0, none⟩) n m) n ((madeCells z.cells (m * size)).toList.take (n * size)) → w.grownBy w' none → wpList P ops Q rest (a.put o.dst (.slice (some ⟨w.heap.size, 0, none⟩) n m)) w') : wpList P ops Q (o :: rest) a w := by
  obtain ⟨w', hrun, r1, r2⟩ := run_make_part (P := P) w base t e i z size h1 h2 h3 h4 kl kc n m hnm b2 b3 b4
  refine wpList_plain hg fun K hK' => ?_
  unfold Oper.wp
  simp [execOp, hop, hl, hc, hrun, Result.andThen]
  exact hK' _ _ (hK w' r1 r2)

abbrev mvZ : CM := ⟨0, 0, 0, 0, 0, 0, 0⟩
abbrev mvS : CM := ⟨1, 0, 0, 0, 0, 0, 0⟩
/-- The row of moves, the first i of which are steps. -/
def manyL (n i : Nat) : List CM := List.replicate i mvS ++ List.replicate (n - i) mvZ
theorem manyL_len {n i : Nat} (h : i ≤ n) : (manyL n i).length = n := by
  unfold manyL
  rw [List.length_append, List.length_replicate, List.length_replicate]
  omega
theorem manyL_set {n i : Nat} (h : i < n) : (flatM (manyL n i)).set (i * 7) (.int .i64 1) = flatM (manyL n (i + 1)) := by
  unfold manyL
  rw [flatM_append, show n - i = (n - (i + 1)) + 1 by omega, List.replicate_succ, List.set_append_right _ _ (by rw [flatM_length, List.length_replicate]; exact Nat.le_refl _), flatM_length, List.length_replicate, Nat.sub_self]
  rw [show List.replicate (i + 1) mvS = List.replicate i mvS ++ [mvS] by rw [List.replicate_succ', ], List.append_assoc, flatM_append]
  rfl
theorem manyL_all (n : Nat) : manyL n n = List.replicate n mvS := by
  unfold manyL
  rw [Nat.sub_self, List.replicate_zero, List.append_nil]
theorem made_many (n : Nat) : (madeCells (Value.agg #[.int .i64 0, .int .i64 0, .int .i64 0, .int .i64 0, .int .u64 0, .int .i64 0, .int .i64 0]).cells (n * 7)).toList = flatM (manyL n 0) := by
  refine List.ext_getElem? (fun q => ?_)
  unfold manyL
  rw [List.replicate_zero, List.nil_append, Nat.sub_zero]
  rcases Nat.lt_or_ge q (n * 7) with hq | hq
  · have h1 : (List.replicate n mvZ)[q / 7]? = some mvZ := by rw [List.getElem?_replicate, if_pos (by omega)]
    have h2 := flatM_at h1 (j := q % 7) (by omega)
    rw [show q / 7 * 7 + q % 7 = q by omega] at h2
    rw [h2]
    unfold madeCells
    rw [Array.getElem?_toList, Array.getElem?_map, Array.getElem?_range, if_pos hq]
    have h7 : q % 7 = 0 ∨ q % 7 = 1 ∨ q % 7 = 2 ∨ q % 7 = 3 ∨ q % 7 = 4 ∨ q % 7 = 5 ∨ q % 7 = 6 := by omega
    show some ((#[Value.int .i64 0, .int .i64 0, .int .i64 0, .int .i64 0, .int .u64 0, .int .i64 0, .int .i64 0] : Array Value)[q % 7]!) = _
    rcases h7 with h | h | h | h | h | h | h <;> (rw [h]; rfl)
  · rw [List.getElem?_eq_none (by rw [Array.length_toList, size_madeCells]; exact hq), List.getElem?_eq_none (by rw [flatM_length, List.length_replicate]; exact hq)]
theorem mvS_good : mvS.Good := ⟨.inr (.inl ⟨rfl, by decide, by decide, rfl, rfl, rfl, rfl, rfl⟩), by decide, by decide⟩
theorem many_good (n : Nat) : ∀ m ∈ List.replicate n mvS, m.Good := fun m hm => by rw [(List.mem_replicate.1 hm).2]; exact mvS_good
theorem many_encs : ∀ n : Nat, (encs (List.replicate n mvS)).length = 2 * n
  | 0 => rfl
  | n + 1 => by
    rw [List.replicate_succ, encs, List.length_append, many_encs n]
    show 2 + 2 * n = _
    omega
theorem many_snoc (n : Nat) : encs (List.replicate (n + 1) mvS) = encs (List.replicate n mvS) ++ [1, 0] := by
  rw [List.replicate_succ', encs_snoc]
  rfl
/-- Where there are too many. -/
theorem DecIs.more {a b : List CM} {n e : Int} (ha : ∀ m ∈ a, m.Good) (hn : 65536 < a.length) (h : DecIs (encs a) b n e) : b = [] ∧ n = ((encs (a.take 65536)).length : Int) ∧ e = 7 := by
  cases h with
  | ok _ hr hm h =>
    have := encs_inj hr ha h.symm
    rw [this] at hm
    omega
  | form ms r hr hm h h0 hno =>
    have h' : encs a ++ [] = encs ms ++ r := by rw [List.append_nil]; exact h
    rcases encs_cmp ha hr h' with ⟨d, rfl, e⟩ | ⟨d, rfl, e⟩
    · rw [List.length_append] at hm
      omega
    · rw [List.append_nil] at e
      cases d with
      | nil => exact absurd e h0
      | cons m d => exact absurd e (hno m _ (ha m (List.mem_append_right _ List.mem_cons_self)))
  | many ms m r hr hm h hg =>
    have h' : encs a ++ [] = encs ms ++ (m.enc ++ r) := by rw [List.append_nil]; exact h
    rcases encs_cmp ha hr h' with ⟨d, rfl, e⟩ | ⟨d, rfl, e⟩
    · rw [List.length_append] at hm
      omega
    · refine ⟨rfl, ?_, rfl⟩
      rw [← hm, List.take_left]
theorem DecPost.more {w' : World} {base : Nat} {l : List Int} {v : Value} {n e t s so d : Int} {ms : List CM} (h : DecPost w' base l v n e) (hl : l = t :: s :: so :: d :: encs ms) (hr : rightC t s so d = true) (hg : ∀ m ∈ ms, m.Good) (hn : 65536 < ms.length) :
    e = 7 ∧ n = ((encs (ms.take 65536)).length : Int) + 4 ∧ v = scV 0 0 0 0 (.slice none 0 0) := by
  cases h with
  | short h =>
    rw [hl] at h
    simp only [List.length_cons] at h
    omega
  | conf t' s' so' d' r h hr' =>
    rw [hl] at h
    simp only [List.cons.injEq] at h
    obtain ⟨rfl, rfl, rfl, rfl, rfl⟩ := h
    rw [hr] at hr'
    cases hr'
  | bad t' s' so' d' r n e h hr' hd he =>
    rw [hl] at h
    simp only [List.cons.injEq] at h
    obtain ⟨rfl, rfl, rfl, rfl, rfl⟩ := h
    obtain ⟨_, h2, h3⟩ := hd.more hg hn
    exact ⟨h3, by rw [h2], rfl⟩
  | ok t' s' so' d' r ms' A cp h hr' hd ho =>
    rw [hl] at h
    simp only [List.cons.injEq] at h
    obtain ⟨rfl, rfl, rfl, rfl, rfl⟩ := h
    have := (hd.more hg hn).2.2
    exact absurd this (by decide)
end Go.Proofs.Ytebgjfhaolgcjaa
