/-
  The contracts of maps.Keys and slices.Sorted at a map of ints: its keys, each once, from the least one on. No condition but that it has no more than a million.
-/
import Derived.Test.YtkadjpllappalaaGreatIMap
import Derived.Test.YtkadjpllappalaaGreatKeysLaid
namespace Go.Proofs.YtkadjpllappalaaGreat
open Go.RowKit Go.Maps Go.Sort Go.Shelf
set_option linter.unusedVariables false

/-- slices.Sort's two contracts here, at the fence that asks nothing. -/
theorem sortsIn (m : Nat) : AnyZI.SortsIn Tryz.prog sortedL_ren Fence.wide m :=
  ⟨fun blk off cap ss W hH hblk hsz => callsIn_wide.2 (AnyM.slices_Sort_int isortL blk off cap ss W hH hblk hsz),
   fun p cap W => callsIn_wide.2 (AnyM.slices_Sort_int_none isortL p cap W)⟩

theorem keys_any (mb : Option Nat) (w : World) : Calls Tryz.prog 24 #[.map mb] w fun e w' =>
    e = .returned (.func (.func 36) #[] #[.pointer (some ⟨w.heap.size, 0, none⟩)]) ∧ w' = w.alloc (.cells #[.map mb] 60) :=
  callsIn_wide.1 (AnyZI.keys_in keysL Fence.wide 5 trivial rfl mb w)

theorem keys_sorted {P : Program} {kt : TypeId} {R : Value → Option (DataW Unit × List MemPlace)} {w : World} {b n : Nat} {D : DataW Unit} (h : w.ownsMap P kt R b n D) (hk : P.underlying kt = some (.int .i64)) {ss : List Int} (hp : ss.Perm (intKeys D)) :
    (ss.mergeSort (fun x y => decide (x ≤ y))).Pairwise (· < ·) ∧ (∀ x, x ∈ ss.mergeSort (fun x y => decide (x ≤ y)) ↔ Maps.has D (.int .i64 x) = true) := by
  have K := int_keyed (q := .i64) hk
  obtain ⟨es, hD, hpw, _⟩ := h.entries K
  obtain ⟨es', hD', hko⟩ := h.keysOf
  obtain rfl : es = es' := by rw [hD] at hD'; simpa using hD'
  subst hD
  have hki : ∀ p ∈ es, ∃ x, p.1 = .int .i64 x := fun p hp => by
    obtain ⟨v, hv⟩ := hko p hp
    obtain ⟨x, _, hx, _⟩ := Maps.keyOf_i64 hk hv
    exact ⟨x, hx⟩
  have hm : ∀ x, x ∈ intKeys (.map es) ↔ Maps.has (.map es) (.int .i64 x) = true := fun x => by
    rw [has_eq, List.any_eq_true]
    show x ∈ es.map (fun p => Go.intOf p.1) ↔ _
    rw [List.mem_map]
    constructor
    · rintro ⟨p, hp', rfl⟩
      obtain ⟨a, ha⟩ := hki p hp'
      exact ⟨p, hp', by rw [ha]; simp [Lit.sameKey, Go.intOf]⟩
    · rintro ⟨p, hp', hs⟩
      obtain ⟨a, ha⟩ := hki p hp'
      rw [ha] at hs
      exact ⟨p, hp', by rw [ha]; simpa [Lit.sameKey, Go.intOf] using hs⟩
  have hnd : (intKeys (.map es)).Nodup := by
    show (es.map fun p => Go.intOf p.1).Nodup
    refine List.pairwise_map.2 (hpw.imp_of_mem fun {p q} hp' hq' hne e => hne ?_)
    obtain ⟨a, ha⟩ := hki p hp'
    obtain ⟨c, hc⟩ := hki q hq'
    rw [ha, hc] at e ⊢
    exact congrArg _ e
  have hps := (List.mergeSort_perm ss (fun x y => decide (x ≤ y))).trans hp
  have tr : ∀ a b c : Int, decide (a ≤ b) = true → decide (b ≤ c) = true → decide (a ≤ c) = true := fun a b c h1 h2 => by simp only [decide_eq_true_eq] at *; exact Int.le_trans h1 h2
  have to : ∀ a b : Int, (decide (a ≤ b) || decide (b ≤ a)) = true := fun a b => by simp only [Bool.or_eq_true, decide_eq_true_eq]; exact Int.le_total a b
  have s1 := List.pairwise_mergeSort tr to ss
  have s2 : (ss.mergeSort (fun x y => decide (x ≤ y))).Nodup := hps.nodup_iff.2 hnd
  refine ⟨(s1.and s2).imp (fun {a b} h => ?_), fun x => ?_⟩
  · have := of_decide_eq_true h.1
    have := h.2
    omega
  · rw [hps.mem_iff, hm]

set_option maxHeartbeats 1000000 in
theorem sorted_any (w : World) (b n : Nat) (F : Int → Int) (M : Int → Bool) (h : IMap Tryz.prog 3 3 .i64 w b n F M) (hn : n ≤ 1000000) :
    Calls Tryz.prog 23 #[.func (.func 36) #[] #[.pointer (some ⟨w.heap.size, 0, none⟩)]] (w.alloc (.cells #[.map (some b)] 60)) fun e w' =>
      ∃ (v : Value) (ss : List Int), e = .returned v ∧ ss.Pairwise (· < ·) ∧ (∀ x, (Lit.int .i64 x).wf = true → (x ∈ ss ↔ M x = true)) ∧ (∀ x ∈ ss, (Lit.int .i64 x).wf = true) ∧ ss.length ≤ n ∧ w'.ownsRow (w.heap.size + 1) 3 1 v ss.length (ss.map (Value.int .i64)) ∧
        Below w.heap.size w w' := by
  obtain ⟨D, hown, hD⟩ := h
  have hbl := hown.lt
  have hsz := hown.size_le
  have hmax : Maps.size D ≤ maxLen := by unfold maxLen; omega
  have hbytes : Maps.size D * 8 ≤ 140737488355328 := by omega
  have hseq : SeqGives Fence.wide 2 Tryz.prog 36 #[.pointer (some ⟨w.heap.size, 0, none⟩)] encZ (fun ss => ss.Perm (intKeys D)) (Maps.size D) (w.alloc (.cells #[.map (some b)] 60)) :=
    AnyZI.keys_gives (ρ := keysL_ren) { keysL with } Fence.wide _ trivial rfl (by omega) w.heap.size b n D _ (by simp) (by simp) (owns_later hown (below_new (Below.refl _ _) _) hbl)
  have cS := AnyZI.sorted_in sortedL Fence.wide 5 trivial trivial trivial trivial rfl (by omega) (sortsIn _) (enters_of Tryz.func35 (by kernel_rfl) rfl) 36 #[.pointer (some ⟨w.heap.size, 0, none⟩)] trivial (enters_of Tryz.func36 (by kernel_rfl) rfl) _ _ hmax hbytes _ hseq
  change CallsIn _ _ Tryz.prog 23 _ _ _ at cS
  refine (callsIn_wide.1 cS).mono ?_
  rintro e w' ⟨v, ss, rfl, hS, hrow, hnil, hb⟩
  obtain ⟨s1, s2⟩ := keys_sorted hown Tryz.underlying3 hS
  have hlen : ss.length = (ss.mergeSort (fun x y => decide (x ≤ y))).length := (List.mergeSort_perm ss (fun x y => decide (x ≤ y))).length_eq.symm
  refine ⟨v, ss.mergeSort (fun x y => decide (x ≤ y)), rfl, s1, fun x hx => by rw [s2 x, (hD x hx).2], fun x hx => ?_, ?_, ?_, ?_⟩
  · have hx' := (List.mergeSort_perm ss (fun x y => decide (x ≤ y))).mem_iff.1 hx
    exact intKeys_wf hown Tryz.underlying3 x (hS.mem_iff.1 hx')
  · rw [← hlen, hS.length_eq]
    obtain ⟨es, hDe, _⟩ := hown.entries (int_keyed Tryz.underlying3)
    subst hDe
    simpa [intKeys, Maps.size] using hsz
  · rw [← hlen]
    have := hrow
    simp only [World.size_alloc] at this
    exact this
  · exact ((Below.refl _ w).alloc (Nat.le_refl _) _).trans (hb.mono (by simp))
end Go.Proofs.YtkadjpllappalaaGreat
