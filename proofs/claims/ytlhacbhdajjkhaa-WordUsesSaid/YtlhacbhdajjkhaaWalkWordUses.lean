/-
  WordUses answers true for every list of ends and every stamp, and leaves all memory that was there as it was. No condition.
-/
import Derived.Test.YtlhacbhdajjkhaaWordMore
import Derived.Test.YtlhacbhdajjkhaaStampCalls
import Derived.Test.YtlhacbhdajjkhaaFlat
import Derived.Maps.AppendAt
namespace Go.Proofs.Ytlhacbhdajjkhaa
open Go.RowKit

/-- The numbers that have been seen: the first is nought; behind it two for each use. -/
def useV (Eb : Nat → Bool) (C : Int) : Nat → Int
  | 0 => 0
  | i + 1 => (if i % 2 = 0 then 1 else 2) + 4 * (if Eb (i / 2) then 1 else 0) + 8 * ((i / 2 + 1 : Nat) : Int) + C

def useRow (Eb : Nat → Bool) (C : Int) (n : Nat) : List Value := (List.range n).map fun i => u64 (useV Eb C i)

theorem useRow_succ (Eb : Nat → Bool) (C : Int) (n : Nat) : useRow Eb C (n + 1) = useRow Eb C n ++ [u64 (useV Eb C n)] := by simp [useRow, List.range_succ]
theorem useRow_length (Eb : Nat → Bool) (C : Int) (n : Nat) : (useRow Eb C n).length = n := by simp [useRow]

theorem useV_rises (Eb : Nat → Bool) (C : Int) (hC : 0 ≤ C) (i : Nat) : useV Eb C i < useV Eb C (i + 1) := by
  cases i with
  | zero => simp only [useV]; split <;> split <;> omega
  | succ i =>
    obtain ⟨m, rfl | rfl⟩ : ∃ m, i = 2 * m ∨ i = 2 * m + 1 := ⟨i / 2, by omega⟩
    · simp only [useV, show (2 * m) % 2 = 0 by omega, show (2 * m) / 2 = m by omega, show (2 * m + 1) % 2 = 1 by omega, show (2 * m + 1) / 2 = m by omega]
      cases Eb m <;> simp <;> omega
    · simp only [useV, show (2 * m + 1) % 2 = 1 by omega, show (2 * m + 1) / 2 = m by omega, show (2 * m + 1 + 1) % 2 = 0 by omega, show (2 * m + 1 + 1) / 2 = m + 1 by omega]
      cases Eb m <;> cases Eb (m + 1) <;> simp <;> omega
theorem useV_lt (Eb : Nat → Bool) (C : Int) (hC : 0 ≤ C) (i j : Nat) (h : i < j) : useV Eb C i < useV Eb C j := by
  induction j with
  | zero => omega
  | succ j ih =>
    have h1 := useV_rises Eb C hC j
    by_cases hij : i = j
    · subst hij; exact h1
    · have := ih (by omega); omega

/-- What is known of memory between two steps: the word in block g; the stamp in block t; what has been seen. -/
structure Uses (w : World) (g t : Nat) (wr : World) (s e n lo hi a b : Int) (v : Value) (m : Nat) (xs : List Value) : Prop where
  c0 : wr.cell? ⟨g, 0, none⟩ = some (i64 s)
  c1 : wr.cell? ⟨g, 1, none⟩ = some (i64 e)
  c2 : wr.cell? ⟨g, 2, none⟩ = some (i64 n)
  c3 : wr.cell? ⟨g, 3, none⟩ = some (i64 lo)
  c4 : wr.cell? ⟨g, 4, none⟩ = some (i64 hi)
  fr : ∀ o, wr.frozen? ⟨g, o, none⟩ = false
  t0 : wr.cell? ⟨t, 0, none⟩ = some (i64 a)
  t1 : wr.cell? ⟨t, 1, none⟩ = some (i64 b)
  tg : t < g
  old : w.heap.size ≤ g
  own : wr.ownsRow (g + 1) 39 1 v m xs
  size : g + 1 ≤ wr.heap.size
  below : Below w.heap.size w wr

theorem own_below {w w' : World} {base : Nat} {e : TypeId} {sz : Nat} {v : Value} {n : Nat} {xs : List Value} (h : w.ownsRow base e sz v n xs) (hb : Below w.heap.size w w') : w'.ownsRow base e sz v n xs := by
  refine ⟨h.1, ?_⟩
  rcases h.2 with h1 | ⟨g, cap, cur, hv, hg, hh, h3⟩
  · exact .inl h1
  · exact .inr ⟨g, cap, cur, hv, hg, by rw [hb.block g (Array.getElem?_eq_some_iff.1 hh).1]; exact hh, h3⟩

theorem Uses.later {w : World} {g t : Nat} {wr w1 : World} {s e n lo hi a b : Int} {v : Value} {m : Nat} {xs : List Value} (h : Uses w g t wr s e n lo hi a b v m xs) (hb : Below wr.heap.size wr w1) : Uses w g t w1 s e n lo hi a b v m xs :=
  ⟨cell_later hb h.c0, cell_later hb h.c1, cell_later hb h.c2, cell_later hb h.c3, cell_later hb h.c4, fun o => (hb.frozen (p := ⟨g, o, none⟩) (by have := h.size; show g < _; omega)).trans (h.fr o), cell_later hb h.t0, cell_later hb h.t1, h.tg, h.old, own_below h.own hb, Nat.le_trans h.size hb.size, below_step h.below hb⟩

theorem own_block {w : World} {base : Nat} {e : TypeId} {sz : Nat} {v : Value} {n : Nat} {xs : List Value} (h : w.ownsRow base e sz v n xs) : ∀ k, v.ownBlock = some k → base ≤ k := by
  intro k hk
  rcases h.2 with ⟨rfl, _⟩ | ⟨g, cap, cur, rfl, hg, _⟩
  · cases hk
  · cases hk
    exact hg

theorem own_set {w : World} {base : Nat} {e : TypeId} {sz : Nat} {v : Value} {n : Nat} {xs : List Value} (h : w.ownsRow base e sz v n xs) (p : Addr) (hp : p.block < base) (u : Value) : (w.setCell p u).ownsRow base e sz v n xs := by
  refine ⟨h.1, ?_⟩
  rcases h.2 with h1 | ⟨g, cap, cur, hv, hg, hh, h3⟩
  · exact .inl h1
  · exact .inr ⟨g, cap, cur, hv, hg, by rw [Below.heap_setCell _ _ _ _ (by omega)]; exact hh, h3⟩

theorem cell_set_same {w : World} {p : Addr} {u v : Value} (h : w.cell? p = some u) : (w.setCell p v).cell? p = some v := World.cell?_setCell_same w p v h
theorem cell_set_far {w : World} {p q : Addr} {u v : Value} (h : w.cell? q = some u) (hne : p ≠ q) : (w.setCell p v).cell? q = some u := by
  rw [World.cell?_setCell_other w p q v hne]
  exact h

theorem Uses.set1 {w : World} {g t : Nat} {wr : World} {s e n lo hi a b : Int} {v : Value} {m : Nat} {xs : List Value} (h : Uses w g t wr s e n lo hi a b v m xs) (x : Int) : Uses w g t (wr.setCell ⟨g, 0, none⟩ (.int .i64 x)) x e n lo hi a b v m xs := by
  have ht := h.tg
  exact ⟨cell_set_same h.c0, cell_set_far h.c1 (by simp), cell_set_far h.c2 (by simp), cell_set_far h.c3 (by simp), cell_set_far h.c4 (by simp), fun o => by rw [World.frozen?_setCell]; exact h.fr o, cell_set_far h.t0 (fun h => by injection h with h1; omega), cell_set_far h.t1 (fun h => by injection h with h1; omega), h.tg, h.old, own_set h.own _ (by simp) _, by simpa [World.setCell] using h.size, below_set h.below h.old _⟩
theorem Uses.set2 {w : World} {g t : Nat} {wr : World} {s e n lo hi a b : Int} {v : Value} {m : Nat} {xs : List Value} (h : Uses w g t wr s e n lo hi a b v m xs) (x : Int) : Uses w g t (wr.setCell ⟨g, 1, none⟩ (.int .i64 x)) s x n lo hi a b v m xs := by
  have ht := h.tg
  exact ⟨cell_set_far h.c0 (by simp), cell_set_same h.c1, cell_set_far h.c2 (by simp), cell_set_far h.c3 (by simp), cell_set_far h.c4 (by simp), fun o => by rw [World.frozen?_setCell]; exact h.fr o, cell_set_far h.t0 (fun h => by injection h with h1; omega), cell_set_far h.t1 (fun h => by injection h with h1; omega), h.tg, h.old, own_set h.own _ (by simp) _, by simpa [World.setCell] using h.size, below_set h.below h.old _⟩
theorem Uses.set3 {w : World} {g t : Nat} {wr : World} {s e n lo hi a b : Int} {v : Value} {m : Nat} {xs : List Value} (h : Uses w g t wr s e n lo hi a b v m xs) (x : Int) : Uses w g t (wr.setCell ⟨g, 2, none⟩ (.int .i64 x)) s e x lo hi a b v m xs := by
  have ht := h.tg
  exact ⟨cell_set_far h.c0 (by simp), cell_set_far h.c1 (by simp), cell_set_same h.c2, cell_set_far h.c3 (by simp), cell_set_far h.c4 (by simp), fun o => by rw [World.frozen?_setCell]; exact h.fr o, cell_set_far h.t0 (fun h => by injection h with h1; omega), cell_set_far h.t1 (fun h => by injection h with h1; omega), h.tg, h.old, own_set h.own _ (by simp) _, by simpa [World.setCell] using h.size, below_set h.below h.old _⟩
theorem Uses.set4 {w : World} {g t : Nat} {wr : World} {s e n lo hi a b : Int} {v : Value} {m : Nat} {xs : List Value} (h : Uses w g t wr s e n lo hi a b v m xs) (x : Int) : Uses w g t (wr.setCell ⟨g, 3, none⟩ (.int .i64 x)) s e n x hi a b v m xs := by
  have ht := h.tg
  exact ⟨cell_set_far h.c0 (by simp), cell_set_far h.c1 (by simp), cell_set_far h.c2 (by simp), cell_set_same h.c3, cell_set_far h.c4 (by simp), fun o => by rw [World.frozen?_setCell]; exact h.fr o, cell_set_far h.t0 (fun h => by injection h with h1; omega), cell_set_far h.t1 (fun h => by injection h with h1; omega), h.tg, h.old, own_set h.own _ (by simp) _, by simpa [World.setCell] using h.size, below_set h.below h.old _⟩
theorem Uses.set5 {w : World} {g t : Nat} {wr : World} {s e n lo hi a b : Int} {v : Value} {m : Nat} {xs : List Value} (h : Uses w g t wr s e n lo hi a b v m xs) (x : Int) : Uses w g t (wr.setCell ⟨g, 4, none⟩ (.int .i64 x)) s e n lo x a b v m xs := by
  have ht := h.tg
  exact ⟨cell_set_far h.c0 (by simp), cell_set_far h.c1 (by simp), cell_set_far h.c2 (by simp), cell_set_far h.c3 (by simp), cell_set_same h.c4, fun o => by rw [World.frozen?_setCell]; exact h.fr o, cell_set_far h.t0 (fun h => by injection h with h1; omega), cell_set_far h.t1 (fun h => by injection h with h1; omega), h.tg, h.old, own_set h.own _ (by simp) _, by simpa [World.setCell] using h.size, below_set h.below h.old _⟩

theorem Uses.put {w : World} {g t : Nat} {wr w1 : World} {s e n lo hi a b : Int} {v v' : Value} {m m' : Nat} {xs ys : List Value} (h : Uses w g t wr s e n lo hi a b v m xs) (hg : wr.grownBy w1 v.ownBlock) (ho : w1.ownsRow (g + 1) 39 1 v' m' ys) : Uses w g t w1 s e n lo hi a b v' m' ys := by
  have hne : ∀ k, k < g + 1 → some k ≠ v.ownBlock := fun k hk hh => by have := own_block h.own k hh.symm; omega
  have hs := h.size
  have ht := h.tg
  have hc : ∀ k o u, k < g + 1 → wr.cell? ⟨k, o, none⟩ = some u → w1.cell? ⟨k, o, none⟩ = some u := fun k o u hk hu => (World.cell?_of_block (a := ⟨k, o, none⟩) (hg.block k (by omega) (hne k hk))).trans hu
  exact ⟨hc g 0 _ (by omega) h.c0, hc g 1 _ (by omega) h.c1, hc g 2 _ (by omega) h.c2, hc g 3 _ (by omega) h.c3, hc g 4 _ (by omega) h.c4, fun o => (World.frozen?_of_block (a := ⟨g, o, none⟩) (hg.block g (by omega) (hne g (by omega)))).trans (h.fr o), hc t 0 _ (by omega) h.t0, hc t 1 _ (by omega) h.t1, h.tg, h.old, ho, Nat.le_trans h.size hg.size, h.below.grown hg h.below.size (fun k hk => by have := own_block h.own k hk; have := h.old; omega)⟩

theorem rows_bools {w : World} {a0 : Option Addr} {len cap : Nat} (h : IsRows w [.inr true] a0 len cap) :
    ∃ Eb : Nat → Bool, ∀ i, i < len → ∃ b off, a0 = some ⟨b, off, none⟩ ∧ w.cell? ⟨b, off + i, none⟩ = some (.bool (Eb i)) := by
  have h1 : ∀ i, ∃ x : Bool, i < len → ∃ b off, a0 = some ⟨b, off, none⟩ ∧ w.cell? ⟨b, off + i, none⟩ = some (.bool x) := fun i => by
    by_cases hi : i < len
    · obtain ⟨b, off, hb⟩ := h.2.2.2.1 (by omega)
      obtain ⟨cs, hf, hc⟩ := h.2.2.2.2 b off hb i hi
      obtain ⟨c0, l0, rfl, g0, hf⟩ := fit_cons hf
      obtain ⟨x, rfl⟩ := g0
      have := hc 0 _ rfl
      exact ⟨x, fun _ => ⟨b, off, hb, by simpa using this⟩⟩
    · exact ⟨false, fun h => absurd h hi⟩
  exact ⟨fun i => Classical.choose (h1 i), fun i hi => Classical.choose_spec (h1 i) hi⟩

theorem own_cells {w : World} {base : Nat} {e : TypeId} {v : Value} {n : Nat} {Eb : Nat → Bool} {C : Int} (h : w.ownsRow base e 1 v n (useRow Eb C n)) (hn : 0 < n) :
    ∃ g cap, v = .slice (some ⟨g, 0, none⟩) n cap ∧ n ≤ cap ∧ ∀ i, i < n → w.cell? ⟨g, i, none⟩ = some (u64 (useV Eb C i)) := by
  rcases h.2 with ⟨_, h0⟩ | ⟨g, cap, cur, hv, hg, hh, hnc, _⟩
  · omega
  · refine ⟨g, cap, hv, hnc, fun i hi => ?_⟩
    have hx : (useRow Eb C n)[i]? = some (u64 (useV Eb C i)) := by simp [useRow, hi]
    have := h.cells (g := g) (by rw [hv]; rfl) i _ hx
    rw [addr_add, Nat.zero_add] at this
    exact this

theorem info_u64 : (Try.prog.info? 39).map (fun i => (i.zero, i.size, i.bytes)) = some (some (.int .u64 0), 1, 8) := by kernel_rfl

set_option maxHeartbeats 4000000 in
theorem walk_WordUses (a0 : Option Addr) (len0 cap0 : Nat) (a b : Int) (w : World) (w0 : IsRows w [.inr true] a0 len0 cap0) (_w1_0 : (Lit.int .i64 a).wf = true) (_w1_1 : (Lit.int .i64 b).wf = true) :
    Calls Try.prog 14 #[.slice a0 len0 cap0, st a b] w fun e w' => e = .returned (.bool true) ∧ Below w.heap.size w w' := by
  clear _w1_0 _w1_1
  obtain ⟨Eb, hE⟩ := rows_bools w0
  have hB := Below.refl (w.alloc (.cells #[.int .i64 a, .int .i64 b] 23)).heap.size (w.alloc (.cells #[.int .i64 a, .int .i64 b] 23))
  have hW : Below w.heap.size w (w.alloc (.cells #[.int .i64 a, .int .i64 b] 23)) := below_new (Below.refl _ _) _
  by_cases hbig : 60 < len0
  · have hbig' : (60 : Int) < (len0 : Int) := by omega
    clear w0 hE
    go_enter Try.func14, Try.ntmps14
    go_wp2_with (first | (go_at_call 23; refine (head2_any _).mono ?_; rintro e w' ⟨rfl, hb'⟩; (first | replace hB := below_step hB hb' | replace hB := below_step (below_new hB _) hb'); clear hb'; (try clear hk); have hk := below_rule hB))
    go_ret
    exact ⟨rfl, below_step hW hB⟩
  · have p0 : decide ((60 : Int) < (len0 : Int)) = false := decide_eq_false (by omega)
    rcases Bool.eq_false_or_eq_true (rightB a b) with hr | hr
    · have hab : 0 ≤ a ∧ a ≤ b ∧ b < 16777215 := by unfold rightB at hr; exact of_decide_eq_true hr
      have q0 : (w.alloc (.cells #[.int .i64 a, .int .i64 b] 23)).cell? ⟨w.heap.size, 0, none⟩ = some (i64 a) := by go_simp
      have q1 : (w.alloc (.cells #[.int .i64 a, .int .i64 b] 23)).cell? ⟨w.heap.size, 1, none⟩ = some (i64 b) := by go_simp
      go_enter Try.func14, Try.ntmps14
      go_wp2_with fail
      refine (head2_any _).mono ?_
      rintro r w1 ⟨rfl, hb1⟩
      replace q0 := cell_later hb1 q0
      replace q1 := cell_later hb1 q1
      go_wp2_with fail
      refine (right_any _ _ _).mono ?_
      rintro r w2 ⟨rfl, hb2⟩
      replace q0 := cell_later hb2 q0
      replace q1 := cell_later hb2 q1
      go_wp2_with fail
      refine (pack_right 0 0 0 0 0 _ (by decide)).mono ?_
      rintro r w3 ⟨rfl, hb3⟩
      have hu : Uses w w2.heap.size w.heap.size (w3.alloc (.cells #[u64 0] 39)) 0 0 0 0 0 a b (.slice (some ⟨w3.heap.size, 0, none⟩) 1 1) 1 (useRow Eb (65536 * a + 1099511627776 * b) 1) := by
        have hb3' := below_new hb3 (.cells #[u64 0] 39)
        have hz := hb3.size
        simp only [World.size_alloc] at hz
        have hz2 : w.heap.size + 1 ≤ w2.heap.size := by have e1 := hb1.size; have e2 := hb2.size; simp only [World.size_alloc] at e1; omega
        refine ⟨cell_later hb3' (World.cell?_alloc_new w2 #[i64 0, i64 0, i64 0, i64 0, i64 0] 38 0), cell_later hb3' (World.cell?_alloc_new w2 #[i64 0, i64 0, i64 0, i64 0, i64 0] 38 1), cell_later hb3' (World.cell?_alloc_new w2 #[i64 0, i64 0, i64 0, i64 0, i64 0] 38 2), cell_later hb3' (World.cell?_alloc_new w2 #[i64 0, i64 0, i64 0, i64 0, i64 0] 38 3), cell_later hb3' (World.cell?_alloc_new w2 #[i64 0, i64 0, i64 0, i64 0, i64 0] 38 4), fun o => (hb3'.frozen (p := ⟨w2.heap.size, o, none⟩) (by simp)).trans (World.frozen?_alloc_at _ _ _ _ rfl), cell_later hb3' ((World.cell?_alloc_some w2 _ _ (by rw [q0]; rfl)).trans q0), cell_later hb3' ((World.cell?_alloc_some w2 _ _ (by rw [q1]; rfl)).trans q1), by omega, by omega, ⟨rfl, .inr ⟨w3.heap.size, 1, #[u64 0], rfl, by omega, (MapKept.heap_alloc w3 _).1, Nat.le_refl _, by unfold maxLen; omega, rfl, rfl⟩⟩, by simp; omega, below_step (below_new (below_step (below_step hW hb1) hb2) _) hb3'⟩
      have hb123 : Below w.heap.size w w2 := below_step (below_step hW hb1) hb2
      clear hb1 hb2 hb3 q0 q1
      go_wp2_with fail
      go_loopw [6, 30] (fun v i wr => ∃ (k : Nat) (s e lo hi : Int), k ≤ len0 ∧ i = .int .i64 k ∧ Uses w w2.heap.size w.heap.size wr s e k lo hi a b v (2 * k + 1) (useRow Eb (65536 * a + 1099511627776 * b) (2 * k + 1))) (fun _ i _ => len0 - (intOf i).toNat)
      case atStart => exact ⟨0, _, _, _, _, by omega, rfl, hu⟩
      case round =>
        obtain ⟨k, s, e, lo, hi, hk, rfl, hU⟩ := hrel
        rcases Nat.lt_or_ge k len0 with hlt | hge
        · obtain ⟨b0, off, rfl, hc⟩ := hE k hlt
          replace hc := cell_later hU.below hc
          have c0 := hU.c0
          have c1 := hU.c1
          have c2 := hU.c2
          have c3 := hU.c3
          have c4 := hU.c4
          have t0 := hU.t0
          have t1 := hU.t1
          have hwr : wrap64 ((k : Int) + 1) = (k : Int) + 1 := by unfold wrap64; omega
          have hmax1 : 2 * k + 1 + 1 ≤ maxLen := by unfold maxLen; omega
          have hmax2 : 2 * k + 1 + 1 + 1 ≤ maxLen := by unfold maxLen; omega
          obtain ⟨i0, hi0, hz0, hz1, hz2⟩ := info_parts info_u64
          rcases Bool.eq_false_or_eq_true (Eb k) with hb | hb
          · rw [hb] at hc
            have v1 : 1 + 4 * 1 + 8 * ((k : Int) + 1) + 65536 * a + 1099511627776 * b = useV Eb (65536 * a + 1099511627776 * b) (2 * k + 1) := by
              simp only [useV, show (2 * k) % 2 = 0 by omega, show (2 * k) / 2 = k by omega, hb]
              simp
              omega
            have v2 : 2 + 4 * 1 + 8 * ((k : Int) + 1) + 65536 * a + 1099511627776 * b = useV Eb (65536 * a + 1099511627776 * b) (2 * k + 1 + 1) := by
              simp only [useV, show (2 * k + 1) % 2 = 1 by omega, show (2 * k + 1) / 2 = k by omega, hb]
              simp
              omega
            clear hb
            go_wp2_with fail
            refine (next_any _ _ _ _ _ _ _ _ _).mono ?_
            rintro r w4 ⟨rfl, hb4⟩
            rw [hwr]
            replace hU := hU.later hb4
            replace c0 := hU.c0
            replace c1 := hU.c1
            replace c2 := hU.c2
            replace c3 := hU.c3
            replace c4 := hU.c4
            have f0 := hU.fr 0
            have f1 := hU.fr 1
            have f2 := hU.fr 2
            have f3 := hU.fr 3
            have f4 := hU.fr 4
            go_wp2_with fail
            replace hU := ((((hU.set1 1).set2 1).set3 ((k : Int) + 1)).set4 a).set5 b
            refine (pack_right 1 1 ((k : Int) + 1) a b _ (by omega)).mono ?_
            rintro r w5 ⟨rfl, hb5⟩
            rw [v1]
            replace hU := (hU.later hb5).later (below_new (Below.refl _ _) (.cells #[u64 (useV Eb (65536 * a + 1099511627776 * b) (2 * k + 1))] 39))
            clear hb4 hb5 c0 c1 c2 c3 c4 f0 f1 f2 f3 f4 t0 t1
            have hsz := hU.size
            go_wp2_with (at_builtin; refine wpList_append_own _ rfl _ _ 51 rfl (w2.heap.size + 1) 39 i0 (.int .u64 0) 1 8 Try.underlying51 hi0 hz0 hz1 hz2 rfl (by decide) _ _ _ rfl hU.own ⟨w5.heap.size, 0, none⟩ 1 1 [u64 (useV Eb (65536 * a + 1099511627776 * b) (2 * k + 1))] rfl rfl (cell_one_new _ _ _) (by intro u hu; simp at hu; subst hu; rfl) hmax1 (by omega) hsz ?_; intro v6 w6 hown' hgrow _; replace hU := hU.put hgrow hown'; have c0 := hU.c0; have c1 := hU.c1; have c2 := hU.c2; have c3 := hU.c3; have c4 := hU.c4; clear hown' hgrow)
            clear hsz
            refine (taken_any _ _ _ _ _ _).mono ?_
            rintro r w7 ⟨rfl, hb7⟩
            replace hU := hU.later hb7
            replace c0 := hU.c0
            replace c1 := hU.c1
            replace c2 := hU.c2
            replace c3 := hU.c3
            replace c4 := hU.c4
            have f0 := hU.fr 0
            have f1 := hU.fr 1
            have f2 := hU.fr 2
            have f3 := hU.fr 3
            have f4 := hU.fr 4
            go_wp2_with fail
            replace hU := ((((hU.set1 2).set2 1).set3 ((k : Int) + 1)).set4 a).set5 b
            refine (pack_right 2 1 ((k : Int) + 1) a b _ (by omega)).mono ?_
            rintro r w8 ⟨rfl, hb8⟩
            rw [v2]
            replace hU := (hU.later hb8).later (below_new (Below.refl _ _) (.cells #[u64 (useV Eb (65536 * a + 1099511627776 * b) (2 * k + 1 + 1))] 39))
            clear hb7 hb8 c0 c1 c2 c3 c4 f0 f1 f2 f3 f4
            have hsz := hU.size
            go_wp2_with (at_builtin; refine wpList_append_own _ rfl _ _ 51 rfl (w2.heap.size + 1) 39 i0 (.int .u64 0) 1 8 Try.underlying51 hi0 hz0 hz1 hz2 rfl (by decide) _ _ _ rfl hU.own ⟨w8.heap.size, 0, none⟩ 1 1 [u64 (useV Eb (65536 * a + 1099511627776 * b) (2 * k + 1 + 1))] rfl rfl (cell_one_new _ _ _) (by intro u hu; simp at hu; subst hu; rfl) hmax2 (by omega) hsz ?_; intro v9 w9 hown' hgrow _; replace hU := hU.put hgrow hown'; have c0 := hU.c0; have c1 := hU.c1; have c2 := hU.c2; have c3 := hU.c3; have c4 := hU.c4; clear hown' hgrow)
            go_roundw
            case rel => exact ⟨k + 1, _, _, _, _, by omega, by go_num, by
              have e1 : 2 * (k + 1) + 1 = 2 * k + 1 + 1 + 1 := by omega
              rw [e1, useRow_succ, useRow_succ, Int.natCast_add]
              exact hU⟩
            case measure => simp [intOf]; omega
          · rw [hb] at hc
            have v1 : 1 + 4 * 0 + 8 * ((k : Int) + 1) + 65536 * a + 1099511627776 * b = useV Eb (65536 * a + 1099511627776 * b) (2 * k + 1) := by
              simp only [useV, show (2 * k) % 2 = 0 by omega, show (2 * k) / 2 = k by omega, hb]
              simp
              omega
            have v2 : 2 + 4 * 0 + 8 * ((k : Int) + 1) + 65536 * a + 1099511627776 * b = useV Eb (65536 * a + 1099511627776 * b) (2 * k + 1 + 1) := by
              simp only [useV, show (2 * k + 1) % 2 = 1 by omega, show (2 * k + 1) / 2 = k by omega, hb]
              simp
              omega
            clear hb
            go_wp2_with fail
            refine (next_any _ _ _ _ _ _ _ _ _).mono ?_
            rintro r w4 ⟨rfl, hb4⟩
            rw [hwr]
            replace hU := hU.later hb4
            replace c0 := hU.c0
            replace c1 := hU.c1
            replace c2 := hU.c2
            replace c3 := hU.c3
            replace c4 := hU.c4
            have f0 := hU.fr 0
            have f1 := hU.fr 1
            have f2 := hU.fr 2
            have f3 := hU.fr 3
            have f4 := hU.fr 4
            go_wp2_with fail
            replace hU := ((((hU.set1 1).set2 0).set3 ((k : Int) + 1)).set4 a).set5 b
            refine (pack_right 1 0 ((k : Int) + 1) a b _ (by omega)).mono ?_
            rintro r w5 ⟨rfl, hb5⟩
            rw [v1]
            replace hU := (hU.later hb5).later (below_new (Below.refl _ _) (.cells #[u64 (useV Eb (65536 * a + 1099511627776 * b) (2 * k + 1))] 39))
            clear hb4 hb5 c0 c1 c2 c3 c4 f0 f1 f2 f3 f4 t0 t1
            have hsz := hU.size
            go_wp2_with (at_builtin; refine wpList_append_own _ rfl _ _ 51 rfl (w2.heap.size + 1) 39 i0 (.int .u64 0) 1 8 Try.underlying51 hi0 hz0 hz1 hz2 rfl (by decide) _ _ _ rfl hU.own ⟨w5.heap.size, 0, none⟩ 1 1 [u64 (useV Eb (65536 * a + 1099511627776 * b) (2 * k + 1))] rfl rfl (cell_one_new _ _ _) (by intro u hu; simp at hu; subst hu; rfl) hmax1 (by omega) hsz ?_; intro v6 w6 hown' hgrow _; replace hU := hU.put hgrow hown'; have c0 := hU.c0; have c1 := hU.c1; have c2 := hU.c2; have c3 := hU.c3; have c4 := hU.c4; clear hown' hgrow)
            clear hsz
            refine (taken_any _ _ _ _ _ _).mono ?_
            rintro r w7 ⟨rfl, hb7⟩
            replace hU := hU.later hb7
            replace c0 := hU.c0
            replace c1 := hU.c1
            replace c2 := hU.c2
            replace c3 := hU.c3
            replace c4 := hU.c4
            have f0 := hU.fr 0
            have f1 := hU.fr 1
            have f2 := hU.fr 2
            have f3 := hU.fr 3
            have f4 := hU.fr 4
            go_wp2_with fail
            replace hU := ((((hU.set1 2).set2 0).set3 ((k : Int) + 1)).set4 a).set5 b
            refine (pack_right 2 0 ((k : Int) + 1) a b _ (by omega)).mono ?_
            rintro r w8 ⟨rfl, hb8⟩
            rw [v2]
            replace hU := (hU.later hb8).later (below_new (Below.refl _ _) (.cells #[u64 (useV Eb (65536 * a + 1099511627776 * b) (2 * k + 1 + 1))] 39))
            clear hb7 hb8 c0 c1 c2 c3 c4 f0 f1 f2 f3 f4
            have hsz := hU.size
            go_wp2_with (at_builtin; refine wpList_append_own _ rfl _ _ 51 rfl (w2.heap.size + 1) 39 i0 (.int .u64 0) 1 8 Try.underlying51 hi0 hz0 hz1 hz2 rfl (by decide) _ _ _ rfl hU.own ⟨w8.heap.size, 0, none⟩ 1 1 [u64 (useV Eb (65536 * a + 1099511627776 * b) (2 * k + 1 + 1))] rfl rfl (cell_one_new _ _ _) (by intro u hu; simp at hu; subst hu; rfl) hmax2 (by omega) hsz ?_; intro v9 w9 hown' hgrow _; replace hU := hU.put hgrow hown'; have c0 := hU.c0; have c1 := hU.c1; have c2 := hU.c2; have c3 := hU.c3; have c4 := hU.c4; clear hown' hgrow)
            go_roundw
            case rel => exact ⟨k + 1, _, _, _, _, by omega, by go_num, by
              have e1 : 2 * (k + 1) + 1 = 2 * k + 1 + 1 + 1 := by omega
              rw [e1, useRow_succ, useRow_succ, Int.natCast_add]
              exact hU⟩
            case measure => simp [intOf]; omega
        · obtain rfl : k = len0 := by omega
          obtain ⟨gb, cap, rfl, hcap, hcells⟩ := own_cells hU.own (by omega)
          have c2 := hU.c2
          have hfin := below_step (Below.refl _ _) hU.below
          have hC : 0 ≤ 65536 * a + 1099511627776 * b := by omega
          have hlt := useV_lt Eb (65536 * a + 1099511627776 * b) hC
          have Hlt := Lib.hid hlt
          have Hcells := Lib.hid hcells
          have HU := Lib.hid hfin
          clear hE hu hlt hcells hU hfin hge
          go_wp2_with fail
          go_loop [54] (fun i => ∃ m : Nat, m ≤ 2 * k + 1 ∧ i = .int .i64 m) (fun i => 2 * k + 1 - (intOf i).toNat)
          case atStart => exact ⟨0, by omega, rfl⟩
          case round =>
            obtain ⟨m, hm, rfl⟩ := hrel
            rcases Nat.lt_or_ge m (2 * k + 1) with h1 | h1
            · have d0 := Hcells.out m h1
              have hmc : m ≤ cap := by omega
              go_wp2_with fail
              go_loop [63] (fun j => ∃ q : Nat, q ≤ m ∧ j = .int .i64 q) (fun j => m - (intOf j).toNat)
              case atStart => exact ⟨0, by omega, rfl⟩
              case round =>
                obtain ⟨q, hq, rfl⟩ := hrel
                rcases Nat.lt_or_ge q m with h2 | h2
                · have d1 := Hcells.out q (by omega)
                  have hne : (useV Eb (65536 * a + 1099511627776 * b) m == useV Eb (65536 * a + 1099511627776 * b) q) = false := by
                    have := Hlt.out q m h2
                    rw [beq_eq_false_iff_ne]
                    omega
                  go_wp2
                  go_round
                  case rel => exact ⟨q + 1, by omega, by go_num⟩
                  case measure => simp [intOf]; omega
                · obtain rfl : q = m := by omega
                  go_wp2
                  go_round
                  case rel => exact ⟨q + 1, by omega, by go_num⟩
                  case measure => simp [intOf]; omega
            · obtain rfl : m = 2 * k + 1 := by omega
              go_wp2
              go_ret
              exact ⟨rfl, HU.out⟩
    · clear w0 hE
      go_enter Try.func14, Try.ntmps14
      go_wp2_with (first | (go_at_call 23; refine (head2_any _).mono ?_; rintro e w' ⟨rfl, hb'⟩; (first | replace hB := below_step hB hb' | replace hB := below_step (below_new hB _) hb'); clear hb'; (try clear hk); have hk := below_rule hB) | (go_at_call 21; refine (right_any _ _ _).mono ?_; rintro e w' ⟨rfl, hb'⟩; (first | replace hB := below_step hB hb' | replace hB := below_step (below_new hB _) hb'); clear hb'; (try clear hk); have hk := below_rule hB))
      go_ret
      exact ⟨rfl, below_step hW hB⟩

end Go.Proofs.Ytlhacbhdajjkhaa
