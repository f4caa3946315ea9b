/-
  MemReads answers true for every number and list of events, and leaves all memory that was there as it was. No condition.
-/
import Derived.Test.YteokinaneilgjaaMemBack2
namespace Go.Proofs.Yteokinaneilgjaa
open Go.RowKit
set_option linter.unusedVariables false

theorem rows_evs {w : World} {a0 : Option Addr} {len cap : Nat} (h : IsRows w [.inl .i64, .inl .i64, .inl .i64, .inl .u64, .inl .u64, .inr true] a0 len cap) :
    ∃ L : List Ev, L.length = len ∧ AtE w a0 L ∧ ∀ e ∈ L, e.num := by
  by_cases hl : len = 0
  · exact ⟨[], hl.symm, (fun h => absurd rfl h), (fun e he => by cases he)⟩
  · obtain ⟨h1, h2, h3, h4, h5⟩ := h
    obtain ⟨b, off, rfl⟩ := h4 (by omega)
    have hx : ∀ i, ∃ e : Ev, i < len → (w.cell? ⟨b, off + i * 6, none⟩ = some (i64 e.who) ∧ w.cell? ⟨b, off + i * 6 + 1, none⟩ = some (i64 e.op) ∧ w.cell? ⟨b, off + i * 6 + 2, none⟩ = some (i64 e.cell) ∧
        w.cell? ⟨b, off + i * 6 + 3, none⟩ = some (u64 e.old) ∧ w.cell? ⟨b, off + i * 6 + 4, none⟩ = some (u64 e.new) ∧ w.cell? ⟨b, off + i * 6 + 5, none⟩ = some (.bool e.ok)) ∧ e.num := by
      intro i
      by_cases hi : i < len
      · obtain ⟨cs, hf, hc⟩ := h5 b off rfl i hi
        obtain ⟨c0, l0, rfl, g0, f0⟩ := fit_cons hf
        obtain ⟨c1, l1, rfl, g1, f1⟩ := fit_cons f0
        obtain ⟨c2, l2, rfl, g2, f2⟩ := fit_cons f1
        obtain ⟨c3, l3, rfl, g3, f3⟩ := fit_cons f2
        obtain ⟨c4, l4, rfl, g4, f4⟩ := fit_cons f3
        obtain ⟨c5, l5, rfl, g5, f5⟩ := fit_cons f4
        obtain ⟨x0, rfl, _⟩ := g0
        obtain ⟨x1, rfl, _⟩ := g1
        obtain ⟨x2, rfl, _⟩ := g2
        obtain ⟨x3, rfl, r3⟩ := g3
        obtain ⟨x4, rfl, r4⟩ := g4
        obtain ⟨x5, rfl⟩ := g5
        exact ⟨⟨x0, x1, x2, x3, x4, x5⟩, fun _ => ⟨⟨hc 0 _ rfl, hc 1 _ rfl, hc 2 _ rfl, hc 3 _ rfl, hc 4 _ rfl, hc 5 _ rfl⟩, (bounds_u64 r3).1, (bounds_u64 r3).2, (bounds_u64 r4).1, (bounds_u64 r4).2⟩⟩
      · exact ⟨⟨0, 0, 0, 0, 0, true⟩, fun h => absurd h hi⟩
    obtain ⟨X, hX⟩ := Classical.axiomOfChoice hx
    refine ⟨(List.range len).map X, by simp, fun _ => ⟨b, off, rfl, World.block_lt_of_cell? w _ (hX 0 (by omega)).1.1, fun i e he => ?_⟩, fun e he => ?_⟩
    · have hi : i < len := by
        have := (List.getElem?_eq_some_iff.1 he).1
        simpa using this
      rw [List.getElem?_map, List.getElem?_range hi] at he
      obtain rfl : X i = e := by simpa using he
      exact (hX i hi).1
    · obtain ⟨i, hi, rfl⟩ := List.mem_map.1 he
      exact (hX i (by simpa using hi)).2

/-- What is known of memory in MemReads: the law's own cells. -/
structure Reads (w wr : World) (g : Nat) (D : List Int) : Prop where
  row : wr.ownsRow w.heap.size 28 1 (.slice (some ⟨g, 0, none⟩) D.length D.length) D.length (D.map u64)
  size : w.heap.size ≤ wr.heap.size
  below : Below w.heap.size w wr

theorem Reads.later {w wr wr' : World} {g : Nat} {D : List Int} (h : Reads w wr g D) (k : Below wr.heap.size wr wr') : Reads w wr' g D :=
  ⟨(Keep.of_below (T := fun _ => False) k).row h.row (fun _ _ h => h), Nat.le_trans h.size k.size, below_step' h.below k h.size⟩
theorem Reads.store {w wr : World} {g : Nat} {D : List Int} (h : Reads w wr g D) (i : Nat) (y : Int) : Reads w (wr.setCell ⟨g, i, none⟩ (u64 y)) g (D.set i y) := by
  refine ⟨?_, by simpa [World.setCell] using h.size, below_set h.below (h.row.lt g rfl).1 _⟩
  rw [List.length_set, List.map_set]
  exact (h.row.stored i (u64 y)).1
theorem reads_made {w w1 w3 : World} {m : Nat} (hb : Below w.heap.size w w1)
    (hown : w3.ownsRow w.heap.size 28 1 (.slice (some ⟨w1.heap.size, 0, none⟩) m m) m (madeCells (Value.int .u64 0).cells (m * 1)).toList) (hg : w1.grownBy w3 none) : Reads w w3 w1.heap.size (List.replicate m 0) := by
  rw [toList_made] at hown
  have hl : (List.replicate m (0 : Int)).length = m := List.length_replicate
  refine ⟨by rw [hl]; exact hown, Nat.le_trans hb.size hg.size, hb.grown hg hb.size (fun k hk => by cases hk)⟩

set_option maxRecDepth 100000 in
set_option maxHeartbeats 20000000 in
theorem walk_MemReads (a0 : Int) (a1 : Option Addr) (len1 cap1 : Nat) (w : World) (w0 : (Lit.int .i64 a0).wf = true) (w1 : IsRows w [.inl .i64, .inl .i64, .inl .i64, .inl .u64, .inl .u64, .inr true] a1 len1 cap1) :
    Calls Try.prog 5 #[.int .i64 a0, .slice a1 len1 cap1] w fun e w' => e = .returned (.bool true) ∧ Below w.heap.size w w' := by
  clear w0
  by_cases hbig : 60 < len1
  · have hbig' : (60 : Int) < (len1 : Int) := by omega
    clear w1
    go_enter Try.func5, Try.ntmps5
    go_wp2_with fail
    refine (head3_any _).mono ?_
    rintro e w1 ⟨rfl, hb1⟩
    go_wp2_with fail
    go_ret
    exact ⟨rfl, hb1⟩
  · have p0 : decide ((60 : Int) < (len1 : Int)) = false := decide_eq_false (by omega)
    have hlc := w1.1
    obtain ⟨L, hlen, hA, hN⟩ := rows_evs w1
    have Hlen := Lib.hid hlen
    have HA := Lib.hid hA
    have HN := Lib.hid hN
    obtain ⟨m, hm, hm15⟩ : ∃ m : Nat, bits .and .i64 a0 15 = (m : Int) ∧ m ≤ 15 := ⟨(a0 % 16).toNat, by rw [show (15 : Int) = ((15 : Nat) : Int) from rfl, and_i64 a0 15 4 rfl (by decide)]; omega, by omega⟩
    obtain ⟨iu, hi, hz0, hz1, hz2⟩ := elem_u64.info
    clear w1 hlen hA hN
    go_enter Try.func5, Try.ntmps5
    go_wp2_with fail
    refine (head3_any _).mono ?_
    rintro e w1 ⟨rfl, hb1⟩
    go_wp2_with (refine wpList_make_full _ rfl _ _ 26 rfl w.heap.size 28 iu (.int .u64 0) 1 elem_u64.und hi hz0 hz1 .i64 .i64 _ _ m rfl rfl (by first | rfl | omega) (by first | rfl | omega) (by rw [hz2]; omega) (by unfold maxLen; omega) hb1.size ?_; intro w3 hown hgrow)
    have hR0 : Reads w w3 w1.heap.size (List.replicate m 0) := reads_made hb1 hown hgrow
    clear hb1 hown hgrow
    generalize w1.heap.size = g at *
    go_loopw [6, 23] (fun b i wr => ∃ (n : Nat) (D : List Int), n ≤ len1 ∧ i = .int .i64 n ∧ b = .bool true ∧ Reads w wr g D ∧ Hid (D.length = m) ∧ Hid (Plays (L.take n) (List.replicate m 0) D)) (fun _ i _ => len1 - (intOf i).toNat)
    case atStart => exact ⟨0, _, by omega, rfl, rfl, hR0, List.length_replicate, rfl⟩
    case round =>
      clear hR0
      obtain ⟨n, D, hn, rfl, rfl, hR, hC, hP⟩ := hrel
      rcases Nat.lt_or_ge n len1 with hlt | hge
      · have hlt0 : n < L.length := by have := Hlen.out; omega
        obtain ⟨e, he⟩ : ∃ e, L[n]? = some e := ⟨_, List.getElem?_eq_getElem hlt0⟩
        have hne : L ≠ [] := fun h => by rw [h] at hlt0; simp at hlt0
        obtain ⟨b1, o1, rfl, _, k1⟩ := (HA.out.later hR.below) hne
        obtain ⟨k0, k1, k2, k3, k4, k5⟩ := k1 n e he
        obtain ⟨who, op, cell, old, new, ok⟩ := e
        simp only at k0 k1 k2 k3 k4 k5
        have He := Lib.hid he
        have HR := Lib.hid hR
        have hgl := (hR.row.lt g rfl).2
        have hgn : g ≠ wr.heap.size := by omega
        clear he hne hlt0
        by_cases hop : op < 0 ∨ 3 < op
        · have HX : Hid (¬ OkE ⟨who, op, cell, old, new, ok⟩ D) := fun h => by
            have h1 := h.1
            have h2 := h.2.1
            simp only at h1 h2
            omega
          clear hR
          rcases hop with hop | hop
          all_goals
            go_wp2_with fail
            refine (back_any _ m _ _ _ L (by omega) (HA.out.later (HR.out.later (below_new (Below.refl _ _) _)).below) HN.out Hlen.out.symm (by omega)).mono ?_
            rintro r w4 ⟨p4, c4, v4, C4, L4, ok4, rfl, hB⟩
            have hno : ok4 = false := by
              cases ok4
              · rfl
              · exact absurd ⟨C4, (hB.yes rfl).1⟩ (plays_bad hP.out He.out HX.out)
            subst hno
            have HBl := Lib.hid (below_step' (HR.out.later (below_new (Below.refl _ _) _)).below hB.below (HR.out.later (below_new (Below.refl _ _) _)).size)
            clear hB
            go_wp2
            go_ret
            exact ⟨rfl, HBl.out⟩
        · have o0 : 0 ≤ op := by omega
          have o3 : op ≤ 3 := by omega
          clear hop
          by_cases hin : 0 ≤ cell ∧ cell < D.length
          · obtain ⟨i, rfl⟩ := Int.eq_ofNat_of_zero_le hin.1
            have hi' : i < D.length := by omega
            obtain ⟨y, hy⟩ : ∃ y, D[i]? = some y := ⟨_, List.getElem?_eq_getElem hi'⟩
            have him : i < m := by have := hC.out; omega
            have him' : (i : Int) < (m : Int) := by omega
            have gc := hR.row.cellAt i (by rw [Nat.mul_one]; exact hi')
            rw [List.getElem?_map, hy] at gc
            have gc' : wr.cell? ⟨g, i, none⟩ = some (.int .u64 y) := gc
            have gf := hR.row.frozenAt i
            have hOk := okE_at (e := ⟨who, op, i, old, new, ok⟩) rfl hy
            have HOk := Lib.hid hOk
            clear hin hi' hR gc hOk hy
            by_cases ho : old = y
            · subst ho
              by_cases hk : op ≠ 2 ∧ ok = false
              · obtain ⟨h2, rfl⟩ := hk
                have q1 : (op == 2) = false := by simpa using h2
                have q2 : (op != 2) = true := by simpa using h2
                have HX : Hid (¬ OkE ⟨who, op, i, old, new, false⟩ D) := fun h => by
                  have := (HOk.out.1 h).2.2.2.1 h2
                  cases this
                clear h2
                go_wp2_with fail
                refine (back_any _ m _ _ _ L (by omega) (HA.out.later (HR.out.later (below_new (Below.refl _ _) _)).below) HN.out Hlen.out.symm (by omega)).mono ?_
                rintro r w4 ⟨p4, c4, v4, C4, L4, ok4, rfl, hB⟩
                have hno : ok4 = false := by
                  cases ok4
                  · rfl
                  · exact absurd ⟨C4, (hB.yes rfl).1⟩ (plays_bad hP.out He.out HX.out)
                subst hno
                have HBl := Lib.hid (below_step' (HR.out.later (below_new (Below.refl _ _) _)).below hB.below (HR.out.later (below_new (Below.refl _ _) _)).size)
                clear hB
                go_wp2
                go_ret
                exact ⟨rfl, HBl.out⟩
              · by_cases hw : (op = 0 ∨ ok = false) ∧ new ≠ old
                · have q3 : (new == old) = false := by simpa using hw.2
                  have q4 : (new != old) = true := by simpa using hw.2
                  have HX : Hid (¬ OkE ⟨who, op, i, old, new, ok⟩ D) := fun h => hw.2 ((HOk.out.1 h).2.2.2.2 hw.1)
                  obtain ⟨hw, _⟩ := hw
                  by_cases h0 : op = 0
                  · subst h0
                    have hok : ok = true := by
                      cases ok
                      · exact absurd ⟨by decide, rfl⟩ hk
                      · rfl
                    subst hok
                    clear hk hw HOk
                    go_wp2_with fail
                    refine (back_any _ m _ _ _ L (by omega) (HA.out.later (HR.out.later (below_new (Below.refl _ _) _)).below) HN.out Hlen.out.symm (by omega)).mono ?_
                    rintro r w4 ⟨p4, c4, v4, C4, L4, ok4, rfl, hB⟩
                    have hno : ok4 = false := by
                      cases ok4
                      · rfl
                      · exact absurd ⟨C4, (hB.yes rfl).1⟩ (plays_bad hP.out He.out HX.out)
                    subst hno
                    have HBl := Lib.hid (below_step' (HR.out.later (below_new (Below.refl _ _) _)).below hB.below (HR.out.later (below_new (Below.refl _ _) _)).size)
                    clear hB
                    go_wp2
                    go_ret
                    exact ⟨rfl, HBl.out⟩
                  · have hok : ok = false := by
                      rcases hw with h | h
                      · exact absurd h h0
                      · exact h
                    subst hok
                    have h2 : op = 2 := by
                      by_cases h : op = 2
                      · exact h
                      · exact absurd ⟨h, rfl⟩ hk
                    subst h2
                    clear hk hw h0 HOk
                    go_wp2_with fail
                    refine (back_any _ m _ _ _ L (by omega) (HA.out.later (HR.out.later (below_new (Below.refl _ _) _)).below) HN.out Hlen.out.symm (by omega)).mono ?_
                    rintro r w4 ⟨p4, c4, v4, C4, L4, ok4, rfl, hB⟩
                    have hno : ok4 = false := by
                      cases ok4
                      · rfl
                      · exact absurd ⟨C4, (hB.yes rfl).1⟩ (plays_bad hP.out He.out HX.out)
                    subst hno
                    have HBl := Lib.hid (below_step' (HR.out.later (below_new (Below.refl _ _) _)).below hB.below (HR.out.later (below_new (Below.refl _ _) _)).size)
                    clear hB
                    go_wp2
                    go_ret
                    exact ⟨rfl, HBl.out⟩
                · have HX : Hid (OkE ⟨who, op, i, old, new, ok⟩ D) := HOk.out.2 ⟨o0, o3, rfl, fun h => by
                    cases ok
                    · exact absurd ⟨h, rfl⟩ hk
                    · rfl, fun h => by
                    by_cases hn : new = old
                    · exact hn
                    · exact absurd ⟨h, hn⟩ hw⟩
                  obtain rfl | rfl | rfl | rfl : op = 0 ∨ op = 1 ∨ op = 2 ∨ op = 3 := by omega
                  · have hok : ok = true := by
                      cases ok
                      · exact absurd ⟨by decide, rfl⟩ hk
                      · rfl
                    subst hok
                    have hnew : new = old := by
                      by_cases hn : new = old
                      · exact hn
                      · exact absurd ⟨.inl rfl, hn⟩ hw
                    subst hnew
                    clear hk hw HOk
                    have HD := Lib.hid (plays_next hP.out He.out HX.out)
                    have HR2 := Lib.hid ((HR.out.store i (new)).later (below_new (Below.refl _ _) (.cells #[.int .i64 who, .int .i64 0, .int .i64 i, .int .u64 new, .int .u64 new, .bool true] 35)))
                    have HC2 : Hid ((D.set i (new)).length = m) := List.length_set.trans hC.out
                    go_wp2
                    go_roundw
                    case rel => exact ⟨n + 1, _, by omega, by go_num, rfl, HR2.out, HC2.out, HD.out⟩
                    case measure => simp [intOf]; omega
                  · have hok : ok = true := by
                      cases ok
                      · exact absurd ⟨by decide, rfl⟩ hk
                      · rfl
                    subst hok
                    clear hk hw HOk
                    have HD := Lib.hid (plays_next hP.out He.out HX.out)
                    have HR2 := Lib.hid ((HR.out.store i (new)).later (below_new (Below.refl _ _) (.cells #[.int .i64 who, .int .i64 1, .int .i64 i, .int .u64 old, .int .u64 new, .bool true] 35)))
                    have HC2 : Hid ((D.set i (new)).length = m) := List.length_set.trans hC.out
                    go_wp2
                    go_roundw
                    case rel => exact ⟨n + 1, _, by omega, by go_num, rfl, HR2.out, HC2.out, HD.out⟩
                    case measure => simp [intOf]; omega
                  · cases ok
                    · have hnew : new = old := by
                        by_cases hn : new = old
                        · exact hn
                        · exact absurd ⟨.inr rfl, hn⟩ hw
                      subst hnew
                      clear hk hw HOk
                      have HD := Lib.hid (plays_next hP.out He.out HX.out)
                      have HR2 := Lib.hid ((HR.out.store i (new)).later (below_new (Below.refl _ _) (.cells #[.int .i64 who, .int .i64 2, .int .i64 i, .int .u64 new, .int .u64 new, .bool false] 35)))
                      have HC2 : Hid ((D.set i (new)).length = m) := List.length_set.trans hC.out
                      go_wp2
                      go_roundw
                      case rel => exact ⟨n + 1, _, by omega, by go_num, rfl, HR2.out, HC2.out, HD.out⟩
                      case measure => simp [intOf]; omega
                    · clear hk hw HOk
                      have HD := Lib.hid (plays_next hP.out He.out HX.out)
                      have HR2 := Lib.hid ((HR.out.store i (new)).later (below_new (Below.refl _ _) (.cells #[.int .i64 who, .int .i64 2, .int .i64 i, .int .u64 old, .int .u64 new, .bool true] 35)))
                      have HC2 : Hid ((D.set i (new)).length = m) := List.length_set.trans hC.out
                      go_wp2
                      go_roundw
                      case rel => exact ⟨n + 1, _, by omega, by go_num, rfl, HR2.out, HC2.out, HD.out⟩
                      case measure => simp [intOf]; omega
                  · have hok : ok = true := by
                      cases ok
                      · exact absurd ⟨by decide, rfl⟩ hk
                      · rfl
                    subst hok
                    clear hk hw HOk
                    have HD := Lib.hid (plays_next hP.out He.out HX.out)
                    have HR2 := Lib.hid ((HR.out.store i (new)).later (below_new (Below.refl _ _) (.cells #[.int .i64 who, .int .i64 3, .int .i64 i, .int .u64 old, .int .u64 new, .bool true] 35)))
                    have HC2 : Hid ((D.set i (new)).length = m) := List.length_set.trans hC.out
                    go_wp2
                    go_roundw
                    case rel => exact ⟨n + 1, _, by omega, by go_num, rfl, HR2.out, HC2.out, HD.out⟩
                    case measure => simp [intOf]; omega
            · have q1 : (old == y) = false := by simpa using ho
              have q2 : (old != y) = true := by simpa using ho
              have HX : Hid (¬ OkE ⟨who, op, i, old, new, ok⟩ D) := fun h => ho (HOk.out.1 h).2.2.1
              clear ho HOk
              go_wp2_with fail
              refine (back_any _ m _ _ _ L (by omega) (HA.out.later (HR.out.later (below_new (Below.refl _ _) _)).below) HN.out Hlen.out.symm (by omega)).mono ?_
              rintro r w4 ⟨p4, c4, v4, C4, L4, ok4, rfl, hB⟩
              have hno : ok4 = false := by
                cases ok4
                · rfl
                · exact absurd ⟨C4, (hB.yes rfl).1⟩ (plays_bad hP.out He.out HX.out)
              subst hno
              have HBl := Lib.hid (below_step' (HR.out.later (below_new (Below.refl _ _) _)).below hB.below (HR.out.later (below_new (Below.refl _ _) _)).size)
              clear hB
              go_wp2
              go_ret
              exact ⟨rfl, HBl.out⟩
          · have HX : Hid (¬ OkE ⟨who, op, cell, old, new, ok⟩ D) := fun h => hin ⟨h.2.2.1, h.2.2.2.1⟩
            have hc : cell < 0 ∨ (m : Int) ≤ cell := by have := hC.out; omega
            clear hin hR
            rcases hc with hc | hc
            all_goals
              go_wp2_with fail
              refine (back_any _ m _ _ _ L (by omega) (HA.out.later (HR.out.later (below_new (Below.refl _ _) _)).below) HN.out Hlen.out.symm (by omega)).mono ?_
              rintro r w4 ⟨p4, c4, v4, C4, L4, ok4, rfl, hB⟩
              have hno : ok4 = false := by
                cases ok4
                · rfl
                · exact absurd ⟨C4, (hB.yes rfl).1⟩ (plays_bad hP.out He.out HX.out)
              subst hno
              have HBl := Lib.hid (below_step' (HR.out.later (below_new (Below.refl _ _) _)).below hB.below (HR.out.later (below_new (Below.refl _ _) _)).size)
              clear hB
              go_wp2
              go_ret
              exact ⟨rfl, HBl.out⟩
      · obtain rfl : n = len1 := by omega
        have hL : L.take n = L := List.take_of_length_le (by have := Hlen.out; omega)
        rw [hL] at hP
        have HR := Lib.hid hR
        clear hR hL
        go_wp2_with fail
        refine (back_any _ m _ _ _ L (by omega) (HA.out.later HR.out.below) HN.out Hlen.out.symm (by omega)).mono ?_
        rintro r w4 ⟨p4, c4, v4, C4, L4, ok4, rfl, hB⟩
        have hyes : ok4 = true := by
          cases ok4
          · exact absurd ⟨D, hP.out⟩ (hB.no rfl)
          · rfl
        subst hyes
        obtain ⟨hP4, rfl⟩ := hB.yes rfl
        have HBl := Lib.hid (below_step' HR.out.below hB.below HR.out.size)
        have HM4 := Lib.hid hB.mem
        have HS4 : Hid (w.heap.size ≤ w4.heap.size) := Nat.le_trans HR.out.size hB.below.size
        clear hB hP4
        go_wp2_with fail
        refine (log_any _ _ p4 c4 _ _ _ HM4.out (by have := Hlen.out; omega)).mono ?_
        rintro r w5 ⟨lv, rfl, ho5, hb5⟩
        obtain ⟨A5, cap5, rfl⟩ := own_shape ho5
        have HA5 : Hid (AtE w5 A5 L4) := AtE.row ho5
        have HB5 := Lib.hid (below_step' HBl.out hb5 HS4.out)
        have HS5 : Hid (w.heap.size ≤ w5.heap.size) := Nat.le_trans HS4.out hb5.size
        clear ho5 hb5
        go_wp2_with fail
        rw [← Hlen.out]
        refine (same_yes _ _ _ _ _ L4 HA5.out (HA.out.later HB5.out) (by have := Hlen.out; omega)).mono ?_
        rintro r w7 ⟨rfl, hb7⟩
        have HB7 := Lib.hid (below_step' HB5.out hb7 HS5.out)
        clear hb7
        go_wp2
        go_ret
        exact ⟨rfl, HB7.out⟩

end Go.Proofs.Yteokinaneilgjaa
