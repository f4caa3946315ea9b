/-
  Plain lemmas, over any program: an argument whose type is made of ints, bools, strings and structs of these, however nested, is opened to its cells at one stroke; likewise a slice of such elements. No condition.
-/
import Derived.WalkKit
import Derived.ProofKit
import Derived.OpenShut
import Derived.ShutString
import Derived.ChangeOld
import Derived.Below
import Derived.Deep.Slices
import Derived.WalkSpells
namespace Go.Proofs.YtkdfgdhfjaapiaaDoor
open Go.ChangeShapes Go.WideShapes Go.ChangeAt Go.RowKit Go.Deep

theorem addr_add (b off i : Nat) : ({ block := b, off := off, spot := none } : Addr).add i = { block := b, off := off + i, spot := none } := by
  unfold Addr.add
  split
  · rename_i h
    subst h
    rfl
  · rfl

/-- What one cell may hold: an int of a kind; a bool; a string. -/
abbrev CK := Sum IntKind Bool

def FitC (k : CK) (c : Value) : Prop :=
  match k with
  | .inl k => ∃ n, c = .int k n ∧ (Lit.int k n).wf = true
  | .inr true => ∃ b, c = .bool b
  | .inr false => ∃ s : ByteArray, c = .string s ∧ s.size ≤ maxLen

def Fit : List CK → List Value → Prop
  | [], [] => True
  | k :: ks, c :: cs => FitC k c ∧ Fit ks cs
  | _, _ => False

theorem fit_cons {k : CK} {ks : List CK} {l : List Value} (h : Fit (k :: ks) l) : ∃ c cs, l = c :: cs ∧ FitC k c ∧ Fit ks cs := by
  cases l with
  | nil => exact h.elim
  | cons c cs => exact ⟨c, cs, rfl, h.1, h.2⟩
theorem fit_nil {l : List Value} (h : Fit [] l) : l = [] := by
  cases l with
  | nil => rfl
  | cons c cs => exact h.elim
theorem fit_append : ∀ {a b : List CK} {x y : List Value}, Fit a x → Fit b y → Fit (a ++ b) (x ++ y)
  | [], _, [], _, _, hb => hb
  | [], _, _ :: _, _, ha, _ => ha.elim
  | _ :: _, _, [], _, ha, _ => ha.elim
  | _ :: _, _, _ :: _, _, ha, hb => ⟨ha.1, fit_append ha.2 hb⟩
theorem fit_length : ∀ {a : List CK} {x : List Value}, Fit a x → x.length = a.length
  | [], [], _ => rfl
  | [], _ :: _, h => h.elim
  | _ :: _, [], h => h.elim
  | _ :: _, _ :: _, h => by simp [fit_length h.2]

def flatFs (P : Program) (r : TypeId → Option (List CK)) : List Field → Nat → Option (List CK)
  | [], _ => some []
  | f :: fs, off =>
    if f.offset = off then
      match r f.type with
      | some l => if P.cellsOf f.type = l.length then (flatFs P r fs (off + l.length)).map (l ++ ·) else none
      | none => none
    else none

/-- The kinds of a type's cells, if it is made of ints, bools, strings and structs of these. -/
def flat (P : Program) : Nat → TypeId → Option (List CK)
  | 0, _ => none
  | n + 1, t =>
    match P.underlying t with
    | some .bool => some [.inr true]
    | some .string => some [.inr false]
    | some (.int k) => some [.inl k]
    | some (.struct fs) =>
      match flatFs P (flat P n) fs.toList 0 with
      | some ks => if P.cellsOf t = ks.length then some ks else none
      | none => none
    | _ => none

section
variable {H : Type} {enc : TypeId × Value → H} {P : Program} {w : World} {base : Nat} {spare : Nat → Bool} {held : Bool}

theorem fit_fields {r : TypeId → Option (List CK)} {m : Nat} {cs : List Value}
    (hr : ∀ (t : TypeId) (ks : List CK) (l : List Value) (x : DataW H × List MemPlace), r t = some ks → DataW.trod enc P w base spare held m t l = some x → Fit ks l) :
    ∀ (fs : List Field) (off : Nat) (ks : List CK), (∀ f ∈ fs, ∃ x, DataW.trod enc P w base spare held m f.type ((cs.drop f.offset).take (P.cellsOf f.type)) = some x) → flatFs P r fs off = some ks → Fit ks ((cs.drop off).take ks.length)
  | [], _, ks, _, h => by
    simp only [flatFs, Option.some.injEq] at h
    subst h
    simp [Fit]
  | f :: fs, off, ks, hx, h => by
    unfold flatFs at h
    split at h
    · rename_i ho
      split at h
      · rename_i l hl
        split at h
        · rename_i hc
          obtain ⟨ks', h1, rfl⟩ := Option.map_eq_some_iff.1 h
          have h2 := fit_fields hr fs (off + l.length) ks' (fun g hg => hx g (List.mem_cons_of_mem _ hg)) h1
          obtain ⟨x, h3⟩ := hx f List.mem_cons_self
          have h4 := hr f.type l _ x hl h3
          rw [ho, hc] at h4
          have h5 := fit_append h4 h2
          rw [List.length_append, List.take_add, List.drop_drop]
          exact h5
        · cases h
      · cases h
    · cases h

theorem fit_of_trod : ∀ (n : Nat) (t : TypeId) (ks : List CK) (fuel : Nat) (cs : List Value) (x : DataW H × List MemPlace), flat P n t = some ks → DataW.trod enc P w base spare held fuel t cs = some x → Fit ks cs
  | 0, _, _, _, _, _, h, _ => by cases h
  | n + 1, t, ks, fuel, cs, x, h, ht => by
    unfold flat at h
    split at h
    · rename_i hu
      obtain ⟨b, rfl, _⟩ := DataW.trod_bool hu ht
      cases h
      exact ⟨⟨b, rfl⟩, trivial⟩
    · rename_i hu
      obtain ⟨b, rfl, _, hs⟩ := DataW.trod_string hu ht
      cases h
      exact ⟨⟨b, rfl, hs⟩, trivial⟩
    · rename_i k hu
      obtain ⟨b, rfl, _, hs⟩ := DataW.trod_int hu ht
      cases h
      exact ⟨⟨b, rfl, hs⟩, trivial⟩
    · rename_i fs hu
      split at h
      · rename_i ks' hk
        split at h
        · rename_i hc
          cases h
          obtain ⟨xs, m, rfl, _, hlen, hxl, hf⟩ := DataW.trod_struct hu ht
          have h1 : ∀ f ∈ fs.toList, ∃ x, DataW.trod enc P w base spare held m f.type ((cs.drop f.offset).take (P.cellsOf f.type)) = some x := by
            intro f hm
            obtain ⟨i, hi, he⟩ := List.getElem_of_mem hm
            have hi' : i < fs.size := by simpa using hi
            have he' : fs[i]? = some f := by rw [Array.getElem?_eq_getElem hi']; simpa using he
            exact ⟨_, (hf i f he').trans (List.getElem?_eq_getElem (by omega))⟩
          have h2 := fit_fields (fun t ks l x a b => fit_of_trod n t ks m l x a b) fs.toList 0 ks h1 hk
          rw [List.drop_zero, List.take_of_length_le (by omega)] at h2
          exact h2
        · cases h
      · cases h
    · cases h

theorem open_flat {r : Reach} {b0 : Nat} {t : TypeId} {fs : Array Field} {n : Nat} {ks : List CK} {v : Value} {d : DataW H} {p : List MemPlace} (hs : P.underlying t = some (.struct fs)) (hk : flat P n t = some ks)
    (hv : Value.okWide P w r b0 t v) (h : DataW.Trod enc P w base spare held t v d p) : ∃ l : List Value, v = .agg ⟨l⟩ ∧ Fit ks l := by
  obtain ⟨cs, rfl, _⟩ := okWide_struct hs hv
  obtain ⟨fuel, hf⟩ := h
  exact ⟨cs.toList, rfl, fit_of_trod n t ks fuel _ _ hk hf⟩

/-- What a walk is told of a slice of such elements: cell j of element i. -/
def IsRows (w : World) (ks : List CK) (a : Option Addr) (len cap : Nat) : Prop :=
  len ≤ cap ∧ cap ≤ maxLen ∧ (a = none → len = 0 ∧ cap = 0) ∧ (0 < len → ∃ b off, a = some ⟨b, off, none⟩) ∧
    ∀ b off, a = some ⟨b, off, none⟩ → ∀ i, i < len → ∃ cs, Fit ks cs ∧ ∀ j v, cs[j]? = some v → w.cell? ⟨b, off + (i * ks.length + j), none⟩ = some v

theorem open_rows {r : Reach} {b0 : Nat} {t e : TypeId} {n : Nat} {ks : List CK} {v : Value} {d : DataW H} {p : List MemPlace} (hs : P.underlying t = some (.slice e)) (hk : flat P n e = some ks) (hc : P.cellsOf e = ks.length) (hpos : 0 < ks.length)
    (hv : Value.okWide P w r b0 t v) (h : DataW.Trod enc P w base spare held t v d p) : ∃ a len cap, v = .slice a len cap ∧ IsRows w ks a len cap := by
  obtain ⟨a, len, cap, rfl⟩ := okWide_slice hs hv
  refine ⟨a, len, cap, rfl, ?_⟩
  obtain ⟨fuel, hf⟩ := h
  rcases open_slice hs hf with ⟨hcs, _⟩ | ⟨x, l, c, m, f, D, Pl, hcs, hb, hl, hm, hmm, _, hi⟩
  · simp [Value.cells] at hcs
    obtain ⟨rfl, rfl, rfl⟩ := hcs
    exact ⟨Nat.le_refl _, Nat.zero_le _, (fun _ => ⟨rfl, rfl⟩), (fun h => absurd h (by omega)), (fun _ _ h => by cases h)⟩
  · simp [Value.cells] at hcs
    obtain ⟨rfl, rfl, rfl⟩ := hcs
    have hlm : len ≤ m := by rw [hmm]; split <;> omega
    refine ⟨hl, hm, (fun h => by cases h), fun h0 => ?_, fun b off hx i hil => ?_⟩
    · obtain ⟨cs', h1, h2⟩ := hi 0 (by omega)
      obtain ⟨_, hcl, hat⟩ := World.cells?_some h1
      have hc0 := hat 0 (by omega)
      have hlt : 0 < cs'.length := by omega
      rw [List.getElem?_eq_getElem hlt] at hc0
      obtain ⟨b, off, spot⟩ := x
      have hsp : spot = none := by simpa [Addr.add] using World.cell?_spot hc0
      subst hsp
      exact ⟨b, off, rfl⟩
    · cases hx
      obtain ⟨cs', h1, h2⟩ := hi i (by omega)
      obtain ⟨_, hcl, hat⟩ := World.cells?_some h1
      refine ⟨cs', fit_of_trod n e ks f cs' _ hk h2, fun j v hj => ?_⟩
      have hjl : j < cs'.length := (List.getElem?_eq_some_iff.1 hj).1
      have h3 := hat j (by omega)
      rw [hj, hc] at h3
      rw [addr_add, addr_add, Nat.add_assoc] at h3
      exact h3
end
end Go.Proofs.YtkdfgdhfjaapiaaDoor
