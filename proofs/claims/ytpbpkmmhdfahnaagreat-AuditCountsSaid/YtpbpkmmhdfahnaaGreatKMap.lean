/-
  Maps to numbers that a call has made, whatever their keys, as functions: what is looked up, what is laid. No condition.
-/
import Derived.Test.YtpbpkmmhdfahnaaGreatAKit
import Derived.Maps.OwnOps
import Derived.Maps.OwnSet
import Derived.Maps.RangeWalk
import Derived.Lib.SlKeysI
namespace Go.Proofs.YtpbpkmmhdfahnaaGreat
open Go.RowKit Go.Maps
set_option linter.unusedVariables false

/-- What is known of a map's type: its keys are kv k, for every k that is ok; its elements numbers of the kind qe. -/
structure KTy (P : Program) (t kt et : TypeId) (qe : IntKind) {κ : Type} (kv : κ → Value) (ok : κ → Prop) : Prop where
  ht : P.underlying t = some (.map kt et)
  hK : Keyed P kt
  inj : ∀ {a b : κ}, kv a = kv b → a = b
  key : ∀ {k : κ}, ok k → ∃ kl, keyOf P kt (kv k) = some kl
  he : P.underlying et = some (.int qe)
  hz : ∀ w, (zeroValue et).run P w = .ok (.int qe 0) w
/-- Block b is a map of at most n entries: at the key k stands F k, 0 where there is none; M k tells whether there is one. -/
def KMap (P : Program) (kt et : TypeId) (qe : IntKind) {κ : Type} (kv : κ → Value) (ok : κ → Prop) (w : World) (b n : Nat) (F : κ → Int) (M : κ → Bool) : Prop :=
  ∃ D : DataW Unit, w.ownsMap P kt (plainElem P et) b n D ∧ ∀ k kl, ok k → keyOf P kt (kv k) = some kl → D.atKey kl (.lit (.int qe 0)) = .lit (.int qe (F k)) ∧ Maps.has D kl = M k

section
variable {P : Program} {t kt et : TypeId} {qe : IntKind} {κ : Type} {kv : κ → Value} {ok : κ → Prop} {w w' : World} {b n : Nat} {F : κ → Int} {M : κ → Bool}
theorem kowns_later {H : Type} {R : Value → Option (DataW H × List MemPlace)} {D : DataW H} {B : Nat} (h : w.ownsMap P kt R b n D) (e : Below B w w') (hb : b < B) : w'.ownsMap P kt R b n D := by
  obtain ⟨es, clock, h1, h2⟩ := h
  exact ⟨es, clock, (e.block b hb).trans h1, h2⟩
theorem KMap.lt (h : KMap P kt et qe kv ok w b n F M) : b < w.heap.size := by
  obtain ⟨D, h, _⟩ := h
  exact h.lt
theorem KMap.below {B : Nat} (h : KMap P kt et qe kv ok w b n F M) (e : Below B w w') (hb : b < B) : KMap P kt et qe kv ok w' b n F M := by
  obtain ⟨D, h, k⟩ := h
  exact ⟨D, kowns_later h e hb, k⟩
theorem KMap.later (h : KMap P kt et qe kv ok w b n F M) (e : Below w.heap.size w w') : KMap P kt et qe kv ok w' b n F M := h.below e h.lt
theorem KMap.kept {row : Option Nat} (h : KMap P kt et qe kv ok w b n F M) (hg : w.grownBy w' row) (hne : some b ≠ row) : KMap P kt et qe kv ok w' b n F M := by
  obtain ⟨D, h, k⟩ := h
  exact ⟨D, h.kept hg hne, k⟩
theorem KMap.drew (h : KMap P kt et qe kv ok w b n F M) : KMap P kt et qe kv ok w.drew b n F M := h
theorem KMap.setCell (h : KMap P kt et qe kv ok w b n F M) {a : Addr} (ha : b ≠ a.block) (u : Value) : KMap P kt et qe kv ok (w.setCell a u) b n F M := by
  obtain ⟨D, h, k⟩ := h
  exact ⟨D, h.setCell ha u, k⟩
theorem KMap.mono (h : KMap P kt et qe kv ok w b n F M) {n' : Nat} (hn : n ≤ n') : KMap P kt et qe kv ok w b n' F M := by
  obtain ⟨D, h, k⟩ := h
  exact ⟨D, h.mono hn, k⟩
/-- The same map, told by other words. -/
theorem KMap.as {F' : κ → Int} {M' : κ → Bool} (h : KMap P kt et qe kv ok w b n F M) (hF : ∀ k, ok k → F k = F' k) (hM : ∀ k, ok k → M k = M' k) : KMap P kt et qe kv ok w b n F' M' := by
  obtain ⟨D, h, k⟩ := h
  exact ⟨D, h, fun x l hx hl => by rw [← hF x hx, ← hM x hx]; exact k x l hx hl⟩
theorem KMap.made (w : World) (P : Program) (kt et : TypeId) (qe : IntKind) {κ : Type} (kv : κ → Value) (ok : κ → Prop) : KMap P kt et qe kv ok (w.alloc (.map #[] 0)) w.heap.size 0 (fun _ => 0) (fun _ => false) :=
  ⟨.map [], World.ownsMap_made _ _ _ _, fun _ _ _ _ => ⟨rfl, rfl⟩⟩

/-- m[k] = c -/
theorem KMap.store (ty : KTy P t kt et qe kv ok) (h : KMap P kt et qe kv ok w b n F M) (hn : n < maxLen) {k : κ} {c : Int} (hk : ok k) (hc : (Lit.int qe c).wf = true) (F' : κ → Int) (M' : κ → Bool)
    (hF : F' k = c) (hM : M' k = true) (hF' : ∀ z, z ≠ k → F' z = F z) (hM' : ∀ z, z ≠ k → M' z = M z) :
    ∃ w', (Instr.mapUpdate t (.map (some b)) (kv k) (.int qe c)).run P w = .ok () w' ∧ KMap P kt et qe kv ok w' b (n + 1) F' M' ∧ w.grownBy w' (some b) := by
  obtain ⟨D, h, hD⟩ := h
  obtain ⟨l0, key⟩ := ty.key hk
  obtain ⟨w', hr, h1, h2⟩ := h.update ty.hK ty.ht hn key (plainElem_int ty.he hc)
  refine ⟨w', hr, ⟨_, h1, fun z lz hz hlz => ?_⟩, h2⟩
  by_cases e : lz = l0
  · obtain rfl : z = k := ty.inj (ty.hK.inj hlz (by rw [e]; exact key))
    rw [e, atKey_put_same h.isMap (ty.hK.key key), has_put_same h.isMap (ty.hK.key key), hF, hM]
    exact ⟨rfl, rfl⟩
  · have hne : z ≠ k := fun hh => e (by
      subst hh
      rw [key] at hlz
      cases hlz
      rfl)
    rw [atKey_put_other e, has_put_other e, hF' z hne, hM' z hne]
    exact hD z lz hz hlz

variable {ops : Array Oper} {rest : List Oper} {o : Oper} {a : Act} {Q : Exit → Act → World → Prop}
/-- m[k], as one operation that only reads. -/
theorem km_take (m x : Operand) (t : TypeId) (hop : o.op = Op.lookup t m x false) (ty : KTy P t kt et qe kv ok) (hm : a.eval m = .map (some b)) (h : KMap P kt et qe kv ok w b n F M) (k : κ) (c : Int) (hx : a.eval x = kv k) (hk : ok k) (hc : F k = c) : (execOp a.eval o).run P w = .ok (.value (.int qe c)) w := by
  obtain ⟨D, h, hD⟩ := h
  obtain ⟨l0, key⟩ := ty.key hk
  obtain ⟨c', hrun, hat, hwc⟩ := h.lookup_int ty.hK ty.ht ty.he (ty.hz w) key
  rw [(hD k l0 hk key).1, hc] at hat
  cases hat
  simp [execOp, hop, hm, hx, hrun, Result.andThen]
/-- v, ok := m[k], likewise. -/
theorem km_take_ok (m x : Operand) (t : TypeId) (hop : o.op = Op.lookup t m x true) (ty : KTy P t kt et qe kv ok) (hm : a.eval m = .map (some b)) (h : KMap P kt et qe kv ok w b n F M) (k : κ) (c : Int) (y : Bool) (hx : a.eval x = kv k) (hk : ok k) (hc : F k = c) (hy : M k = y) : (execOp a.eval o).run P w = .ok (.value (.tuple #[.int qe c, .bool y])) w := by
  obtain ⟨D, h, hD⟩ := h
  obtain ⟨l0, key⟩ := ty.key hk
  obtain ⟨v, ps, hrun, hv⟩ := h.look_ok ty.hK ty.ht (ty.hz w) (plainElem_int (H := Unit) ty.he (by cases qe <;> decide)) key
  obtain ⟨c', rfl, hat, hwc⟩ := plainElem_int_inv ty.he hv
  have hat2 := congrArg Prod.fst hat
  simp only at hat2
  rw [(hD k l0 hk key).1, hc] at hat2
  cases hat2
  rw [(hD k l0 hk key).2, hy] at hrun
  simp [execOp, hop, hm, hx, hrun, Result.andThen]
/-- m[k] = c, as one operation -/
theorem wp_km_put {K : Act → World → Prop} (m x v : Operand) (t : TypeId) (hop : o.op = Op.mapUpdate t m x v) (ty : KTy P t kt et qe kv ok) (hm : a.eval m = .map (some b)) (h : KMap P kt et qe kv ok w b n F M) (hn : n < maxLen) (k : κ) (c : Int) (hx : a.eval x = kv k) (hv : a.eval v = .int qe c)
    (hk : ok k) (hc : (Lit.int qe c).wf = true) (F' : κ → Int) (M' : κ → Bool) (hF : F' k = c) (hM : M' k = true) (hF' : ∀ z, z ≠ k → F' z = F z) (hM' : ∀ z, z ≠ k → M' z = M z)
    (hK : ∀ w', KMap P kt et qe kv ok w' b (n + 1) F' M' → w.grownBy w' (some b) → K (a.put o.dst undef) w') : Oper.wp P o a w K Q := by
  obtain ⟨w', hr, h1, h2⟩ := h.store ty hn hk hc F' M' hF hM hF' hM'
  unfold Oper.wp
  simp [execOp, hop, hm, hx, hv, hr, Result.andThen]
  exact hK w' h1 h2
end
end Go.Proofs.YtpbpkmmhdfahnaaGreat
