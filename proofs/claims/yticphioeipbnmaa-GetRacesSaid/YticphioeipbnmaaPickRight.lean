/-
  The contract of the comparison by which pick holds two places against each other. No condition but that both places are of the words.
-/
import Derived.Test.YticphioeipbnmaaGrow
import Derived.Test.YticphioeipbnmaaPickPure
import Derived.Test.YticphioeipbnmaaRegionT
import Derived.Test.YticphioeipbnmaaHold
import Derived.Deep.DeepCutAuto
namespace Go.Proofs.Yticphioeipbnmaa
open Go.RowKit
set_option linter.unusedVariables false

/-- Which of two places came later. -/
def laterI (x y : Int) (i j : Nat) : Int := orI (cmpS (x / 65536 % 16777216) (x / 1099511627776) (y / 65536 % 16777216) (y / 1099511627776)) (cmpI i j)
theorem laterI_bd (x y : Int) (i j : Nat) : -1 ≤ laterI x y i j ∧ laterI x y i j ≤ 1 := by
  unfold laterI orI cmpS orI cmpI
  repeat' split
  all_goals omega
/-- .. and stands on the right of the other one. -/
def rightI (x y : Int) (i j : Nat) : Int := orI (cmpI (x / 4 % 2) (y / 4 % 2)) (if x / 4 % 2 = 0 then -laterI x y i j else laterI x y i j)

/-- What is loaded of the words. -/
def At2r (B b o1 o2 : Nat) (v : Value) (x y : Int) (w : World) : Prop := w.cell? ⟨B, 0, none⟩ = some v ∧ w.cell? ⟨b, o1, none⟩ = some (u64 x) ∧ w.cell? ⟨b, o2, none⟩ = some (u64 y)

theorem At2r.gr {B b o1 o2 : Nat} {v : Value} {x y : Int} {w w' : World} (h : At2r B b o1 o2 v x y w) (k : Gr w w') : At2r B b o1 o2 v x y w' := ⟨k.cell h.1, k.cell h.2.1, k.cell h.2.2⟩

/-- A word's five cells are laid into a block of its own. -/
theorem set5 {W ww : World} {b : Nat} (hG : Gr W ww) (hv : IsObj ww b [i64 0, i64 0, i64 0, i64 0, i64 0]) (hs : W.heap.size ≤ b) (u0 u1 u2 u3 u4 : Value) :
    Gr W (((((ww.setCell ⟨b, 0, none⟩ u0).setCell ⟨b, 1, none⟩ u1).setCell ⟨b, 2, none⟩ u2).setCell ⟨b, 3, none⟩ u3).setCell ⟨b, 4, none⟩ u4) ∧ IsObj (((((ww.setCell ⟨b, 0, none⟩ u0).setCell ⟨b, 1, none⟩ u1).setCell ⟨b, 2, none⟩ u2).setCell ⟨b, 3, none⟩ u3).setCell ⟨b, 4, none⟩ u4) b [u0, u1, u2, u3, u4] ∧
      ∀ c ys, IsObj ww c ys → b ≠ c → IsObj (((((ww.setCell ⟨b, 0, none⟩ u0).setCell ⟨b, 1, none⟩ u1).setCell ⟨b, 2, none⟩ u2).setCell ⟨b, 3, none⟩ u3).setCell ⟨b, 4, none⟩ u4) c ys :=
  ⟨((((hG.set hs _).set hs _).set hs _).set hs _).set hs _, ((((hv.set 0 u0).set 1 u1).set 2 u2).set 3 u3).set 4 u4, fun c ys h hn => ((((h.other 0 u0 hn).other 1 u1 hn).other 2 u2 hn).other 3 u3 hn).other 4 u4 hn⟩

set_option maxRecDepth 100000 in
set_option maxHeartbeats 4000000 in
theorem rightward_any (W : World) (B b off n cap : Nat) (i j : Nat) (x y : Int) (hi : i < n) (hj : j < n) (hn : n ≤ 1000000) (hA : At2r B b (off + i) (off + j) (.slice (some ⟨b, off, none⟩) n cap) x y W) (x0 : 0 ≤ x) (x1 : x ≤ 18446744073709551615) (y0 : 0 ≤ y) (y1 : y ≤ 18446744073709551615) :
    Calls Try.prog 59 #[i64 i, i64 j, .pointer (some ⟨B, 0, none⟩)] W fun e w' => e = .returned (i64 (rightI x y i j)) ∧ Gr W w' := by
  have i0 : (0 : Int) ≤ (i : Int) := by omega
  have i1 : (i : Int) < (n : Int) := by omega
  have j0 : (0 : Int) ≤ (j : Int) := by omega
  have j1 : (j : Int) < (n : Int) := by omega
  obtain ⟨a0, a1, a2⟩ := id hA
  have HA := Lib.hid hA
  clear hA
  go_enter Try.func59, Try.ntmps59
  go_wp2_with fail
  go_cut [6, 7] (fun s6 s7 wx => ∃ bv bw, s6 = .pointer (some ⟨bv, 0, none⟩) ∧ s7 = .pointer (some ⟨bw, 0, none⟩) ∧ Hid (IsObj wx bv [i64 (x % 4), i64 (x / 4 % 2), i64 (x / 8 % 8192), i64 (x / 65536 % 16777216), i64 (x / 1099511627776)]) ∧ Hid (IsObj wx bw [i64 (y % 4), i64 (y / 4 % 2), i64 (y / 8 % 8192), i64 (y / 65536 % 16777216), i64 (y / 1099511627776)]) ∧ Hid (Gr W wx))
  case first =>
    refine wp_region_seqT (At2r B b (off + i) (off + j) (.slice (some ⟨b, off, none⟩) n cap) x y) (.take 0 (.take 1 (.take 2 (.take 3 (.take 5 (.take 6 (.take 7 (.take 8 (.three 4 (.three 9 (.two 10 (.one 11 (.one 12 (.one 13 .nil))) 11 (.one 10 (.one 12 (.one 13 .nil)))) 10 (.two 9 (.one 11 (.one 12 (.one 13 .nil))) 11 (.one 9 (.one 12 (.one 13 .nil)))) 11 (.two 9 (.one 10 (.one 12 (.one 13 .nil))) 10 (.one 9 (.one 12 (.one 13 .nil))))) 10 (.two 4 (.two 9 (.one 11 (.one 12 (.one 13 .nil))) 11 (.one 9 (.one 12 (.one 13 .nil)))) 11 (.one 4 (.one 9 (.one 12 (.one 13 .nil))))) 11 (.two 4 (.two 9 (.one 10 (.one 12 (.one 13 .nil))) 10 (.one 9 (.one 12 (.one 13 .nil)))) 10 (.one 4 (.one 9 (.one 12 (.one 13 .nil)))))))))))))) (by kernel_rfl) (by kernel_rfl) (by kernel_rfl) (by decide) (fun _ _ _ _ _ h => h) HA.out ?_
    repeat (refine seqT_take (v := ?_) rfl ?_ ?_ ?_; rotate_left 1; rfl; (focus (intro wS hSw; obtain ⟨c0, c1, c2⟩ := hSw; go_simp; first | done | with_reducible rfl)); (try simp only [Act.put, List.setIfInBounds_toArray, List.set_cons_zero, List.set_cons_succ]))
    have HA0 := HA
    clear a0 a1 a2
    have HG : Hid (Gr W W.drew) := (Gr.refl W).drew
    replace HA : Hid (At2r B b (off + i) (off + j) (.slice (some ⟨b, off, none⟩) n cap) x y W.drew) := HA.out
    generalize W.drew = ww0 at HG HA ⊢
    refine ⟨?_, ?_, ?_⟩
    · refine runT rfl (fun K hK => ?_)
      go_simp
      go_at_call 36
      refine (unpack_gr x _ x0 x1).mono ?_
      rintro r ww1 ⟨rfl, hb⟩
      (try go_wp2_with fail)
      replace HA := Lib.hid (HA.out.gr hb)
      replace HG := Lib.hid (HG.out.step hb)
      clear hb
      refine hK.out _ _ HA.out (fun _ => ?_)
      (try simp only [Act.put, List.setIfInBounds_toArray, List.set_cons_zero, List.set_cons_succ])
      clear hK K
      try clear ww0
      refine ⟨?_, ?_, ?_⟩
      · refine runT rfl (fun K hK => ?_)
        go_simp
        go_at_call 36
        refine (unpack_gr y _ y0 y1).mono ?_
        rintro r ww2 ⟨rfl, hb⟩
        (try go_wp2_with fail)
        replace HA := Lib.hid (HA.out.gr hb)
        replace HG := Lib.hid (HG.out.step hb)
        clear hb
        refine hK.out _ _ HA.out (fun _ => ?_)
        (try simp only [Act.put, List.setIfInBounds_toArray, List.set_cons_zero, List.set_cons_succ])
        clear hK K
        try clear ww1
        refine ⟨?_, ?_⟩
        · refine runT rfl (fun K hK => ?_)
          go_simp
          have hb := (Gr.refl ww2).new (.cells #[i64 0, i64 0, i64 0, i64 0, i64 0] 52)
          have Hv : Hid (IsObj (ww2.alloc (.cells #[i64 0, i64 0, i64 0, i64 0, i64 0] 52)) ww2.heap.size [i64 0, i64 0, i64 0, i64 0, i64 0]) := IsObj.made ww2 [i64 0, i64 0, i64 0, i64 0, i64 0] 52
          have Hsv : Hid (W.heap.size ≤ ww2.heap.size) := HG.out.below.size
          replace HA := Lib.hid (HA.out.gr hb)
          replace HG := Lib.hid (HG.out.step hb)
          clear hb
          generalize ww2.alloc (.cells #[i64 0, i64 0, i64 0, i64 0, i64 0] 52) = ww3 at HA HG Hv ⊢
          generalize ww2.heap.size = bv at Hv Hsv ⊢
          refine hK.out _ _ HA.out (fun _ => ?_)
          (try simp only [Act.put, List.setIfInBounds_toArray, List.set_cons_zero, List.set_cons_succ])
          clear hK K
          try clear ww2
          refine runT rfl (fun K hK => ?_)
          go_simp
          have hb := (Gr.refl ww3).new (.cells #[i64 0, i64 0, i64 0, i64 0, i64 0] 52)
          have Hw : Hid (IsObj (ww3.alloc (.cells #[i64 0, i64 0, i64 0, i64 0, i64 0] 52)) ww3.heap.size [i64 0, i64 0, i64 0, i64 0, i64 0]) := IsObj.made ww3 [i64 0, i64 0, i64 0, i64 0, i64 0] 52
          have Hne : Hid (bv ≠ ww3.heap.size) := by have := Hv.out.lt; show _ ≠ _; omega
          replace Hv := Lib.hid (Hv.out.later hb.below)
          have Hsw : Hid (W.heap.size ≤ ww3.heap.size) := HG.out.below.size
          replace HA := Lib.hid (HA.out.gr hb)
          replace HG := Lib.hid (HG.out.step hb)
          clear hb
          generalize ww3.alloc (.cells #[i64 0, i64 0, i64 0, i64 0, i64 0] 52) = ww4 at HA HG Hw Hv ⊢
          generalize ww3.heap.size = bw at Hw Hsw Hne ⊢
          refine hK.out _ _ HA.out (fun _ => ?_)
          (try simp only [Act.put, List.setIfInBounds_toArray, List.set_cons_zero, List.set_cons_succ])
          clear hK K
          try clear ww3
          refine runT rfl (fun K hK => ?_)
          have q0 := Hv.out.at' 0 _ rfl
          have q1 := Hv.out.at' 1 _ rfl
          have q2 := Hv.out.at' 2 _ rfl
          have q3 := Hv.out.at' 3 _ rfl
          have q4 := Hv.out.at' 4 _ rfl
          have f0 := Hv.out.fz 0
          have f1 := Hv.out.fz 1
          have f2 := Hv.out.fz 2
          have f3 := Hv.out.fz 3
          have f4 := Hv.out.fz 4
          go_simp
          clear q0 q1 q2 q3 q4 f0 f1 f2 f3 f4
          obtain ⟨g1, g2, g3⟩ := set5 HG.out Hv.out Hsv.out (i64 (x % 4)) (i64 (x / 4 % 2)) (i64 (x / 8 % 8192)) (i64 (x / 65536 % 16777216)) (i64 (x / 1099511627776))
          replace HG := Lib.hid g1
          replace Hv := Lib.hid g2
          replace Hw := Lib.hid (g3 _ _ Hw.out Hne.out)
          clear g1 g2 g3
          generalize ((((ww4.setCell ⟨bv, 0, none⟩ (i64 (x % 4))).setCell ⟨bv, 1, none⟩ (i64 (x / 4 % 2))).setCell ⟨bv, 2, none⟩ (i64 (x / 8 % 8192))).setCell ⟨bv, 3, none⟩ (i64 (x / 65536 % 16777216))).setCell ⟨bv, 4, none⟩ (i64 (x / 1099511627776)) = wy at HG Hv Hw ⊢
          replace HA := Lib.hid (HA0.out.gr HG.out)
          refine hK.out _ _ HA.out (fun _ => ?_)
          (try simp only [Act.put, List.setIfInBounds_toArray, List.set_cons_zero, List.set_cons_succ])
          clear hK K
          refine runT rfl (fun K hK => ?_)
          have q0 := Hw.out.at' 0 _ rfl
          have q1 := Hw.out.at' 1 _ rfl
          have q2 := Hw.out.at' 2 _ rfl
          have q3 := Hw.out.at' 3 _ rfl
          have q4 := Hw.out.at' 4 _ rfl
          have f0 := Hw.out.fz 0
          have f1 := Hw.out.fz 1
          have f2 := Hw.out.fz 2
          have f3 := Hw.out.fz 3
          have f4 := Hw.out.fz 4
          go_simp
          clear q0 q1 q2 q3 q4 f0 f1 f2 f3 f4
          obtain ⟨g1, g2, g3⟩ := set5 HG.out Hw.out Hsw.out (i64 (y % 4)) (i64 (y / 4 % 2)) (i64 (y / 8 % 8192)) (i64 (y / 65536 % 16777216)) (i64 (y / 1099511627776))
          replace HG := Lib.hid g1
          replace Hw := Lib.hid g2
          replace Hv := Lib.hid (g3 _ _ Hv.out (fun e => Hne.out e.symm))
          clear g1 g2 g3
          generalize ((((wy.setCell ⟨bw, 0, none⟩ (i64 (y % 4))).setCell ⟨bw, 1, none⟩ (i64 (y / 4 % 2))).setCell ⟨bw, 2, none⟩ (i64 (y / 8 % 8192))).setCell ⟨bw, 3, none⟩ (i64 (y / 65536 % 16777216))).setCell ⟨bw, 4, none⟩ (i64 (y / 1099511627776)) = wz at HG Hv Hw ⊢
          replace HA := Lib.hid (HA0.out.gr HG.out)
          refine hK.out _ _ HA.out (fun _ => ?_)
          (try simp only [Act.put, List.setIfInBounds_toArray, List.set_cons_zero, List.set_cons_succ])
          clear hK K
          refine seqT_done ?_
          go_wp2_with fail
          go_meet
          exact ⟨bv, bw, rfl, rfl, Hv, Hw, HG⟩
        · refine runT rfl (fun K hK => ?_)
          go_simp
          have hb := (Gr.refl ww2).new (.cells #[i64 0, i64 0, i64 0, i64 0, i64 0] 52)
          have Hw : Hid (IsObj (ww2.alloc (.cells #[i64 0, i64 0, i64 0, i64 0, i64 0] 52)) ww2.heap.size [i64 0, i64 0, i64 0, i64 0, i64 0]) := IsObj.made ww2 [i64 0, i64 0, i64 0, i64 0, i64 0] 52
          have Hsw : Hid (W.heap.size ≤ ww2.heap.size) := HG.out.below.size
          replace HA := Lib.hid (HA.out.gr hb)
          replace HG := Lib.hid (HG.out.step hb)
          clear hb
          generalize ww2.alloc (.cells #[i64 0, i64 0, i64 0, i64 0, i64 0] 52) = ww3 at HA HG Hw ⊢
          generalize ww2.heap.size = bw at Hw Hsw ⊢
          refine hK.out _ _ HA.out (fun _ => ?_)
          (try simp only [Act.put, List.setIfInBounds_toArray, List.set_cons_zero, List.set_cons_succ])
          clear hK K
          try clear ww2
          refine runT rfl (fun K hK => ?_)
          go_simp
          have hb := (Gr.refl ww3).new (.cells #[i64 0, i64 0, i64 0, i64 0, i64 0] 52)
          have Hv : Hid (IsObj (ww3.alloc (.cells #[i64 0, i64 0, i64 0, i64 0, i64 0] 52)) ww3.heap.size [i64 0, i64 0, i64 0, i64 0, i64 0]) := IsObj.made ww3 [i64 0, i64 0, i64 0, i64 0, i64 0] 52
          have Hne : Hid (ww3.heap.size ≠ bw) := by have := Hw.out.lt; show _ ≠ _; omega
          replace Hw := Lib.hid (Hw.out.later hb.below)
          have Hsv : Hid (W.heap.size ≤ ww3.heap.size) := HG.out.below.size
          replace HA := Lib.hid (HA.out.gr hb)
          replace HG := Lib.hid (HG.out.step hb)
          clear hb
          generalize ww3.alloc (.cells #[i64 0, i64 0, i64 0, i64 0, i64 0] 52) = ww4 at HA HG Hv Hw ⊢
          generalize ww3.heap.size = bv at Hv Hsv Hne ⊢
          refine hK.out _ _ HA.out (fun _ => ?_)
          (try simp only [Act.put, List.setIfInBounds_toArray, List.set_cons_zero, List.set_cons_succ])
          clear hK K
          try clear ww3
          refine runT rfl (fun K hK => ?_)
          have q0 := Hv.out.at' 0 _ rfl
          have q1 := Hv.out.at' 1 _ rfl
          have q2 := Hv.out.at' 2 _ rfl
          have q3 := Hv.out.at' 3 _ rfl
          have q4 := Hv.out.at' 4 _ rfl
          have f0 := Hv.out.fz 0
          have f1 := Hv.out.fz 1
          have f2 := Hv.out.fz 2
          have f3 := Hv.out.fz 3
          have f4 := Hv.out.fz 4
          go_simp
          clear q0 q1 q2 q3 q4 f0 f1 f2 f3 f4
          obtain ⟨g1, g2, g3⟩ := set5 HG.out Hv.out Hsv.out (i64 (x % 4)) (i64 (x / 4 % 2)) (i64 (x / 8 % 8192)) (i64 (x / 65536 % 16777216)) (i64 (x / 1099511627776))
          replace HG := Lib.hid g1
          replace Hv := Lib.hid g2
          replace Hw := Lib.hid (g3 _ _ Hw.out Hne.out)
          clear g1 g2 g3
          generalize ((((ww4.setCell ⟨bv, 0, none⟩ (i64 (x % 4))).setCell ⟨bv, 1, none⟩ (i64 (x / 4 % 2))).setCell ⟨bv, 2, none⟩ (i64 (x / 8 % 8192))).setCell ⟨bv, 3, none⟩ (i64 (x / 65536 % 16777216))).setCell ⟨bv, 4, none⟩ (i64 (x / 1099511627776)) = wy at HG Hv Hw ⊢
          replace HA := Lib.hid (HA0.out.gr HG.out)
          refine hK.out _ _ HA.out (fun _ => ?_)
          (try simp only [Act.put, List.setIfInBounds_toArray, List.set_cons_zero, List.set_cons_succ])
          clear hK K
          refine runT rfl (fun K hK => ?_)
          have q0 := Hw.out.at' 0 _ rfl
          have q1 := Hw.out.at' 1 _ rfl
          have q2 := Hw.out.at' 2 _ rfl
          have q3 := Hw.out.at' 3 _ rfl
          have q4 := Hw.out.at' 4 _ rfl
          have f0 := Hw.out.fz 0
          have f1 := Hw.out.fz 1
          have f2 := Hw.out.fz 2
          have f3 := Hw.out.fz 3
          have f4 := Hw.out.fz 4
          go_simp
          clear q0 q1 q2 q3 q4 f0 f1 f2 f3 f4
          obtain ⟨g1, g2, g3⟩ := set5 HG.out Hw.out Hsw.out (i64 (y % 4)) (i64 (y / 4 % 2)) (i64 (y / 8 % 8192)) (i64 (y / 65536 % 16777216)) (i64 (y / 1099511627776))
          replace HG := Lib.hid g1
          replace Hw := Lib.hid g2
          replace Hv := Lib.hid (g3 _ _ Hv.out (fun e => Hne.out e.symm))
          clear g1 g2 g3
          generalize ((((wy.setCell ⟨bw, 0, none⟩ (i64 (y % 4))).setCell ⟨bw, 1, none⟩ (i64 (y / 4 % 2))).setCell ⟨bw, 2, none⟩ (i64 (y / 8 % 8192))).setCell ⟨bw, 3, none⟩ (i64 (y / 65536 % 16777216))).setCell ⟨bw, 4, none⟩ (i64 (y / 1099511627776)) = wz at HG Hv Hw ⊢
          replace HA := Lib.hid (HA0.out.gr HG.out)
          refine hK.out _ _ HA.out (fun _ => ?_)
          (try simp only [Act.put, List.setIfInBounds_toArray, List.set_cons_zero, List.set_cons_succ])
          clear hK K
          refine seqT_done ?_
          go_wp2_with fail
          go_meet
          exact ⟨bv, bw, rfl, rfl, Hv, Hw, HG⟩
      · refine runT rfl (fun K hK => ?_)
        go_simp
        have hb := (Gr.refl ww1).new (.cells #[i64 0, i64 0, i64 0, i64 0, i64 0] 52)
        have Hv : Hid (IsObj (ww1.alloc (.cells #[i64 0, i64 0, i64 0, i64 0, i64 0] 52)) ww1.heap.size [i64 0, i64 0, i64 0, i64 0, i64 0]) := IsObj.made ww1 [i64 0, i64 0, i64 0, i64 0, i64 0] 52
        have Hsv : Hid (W.heap.size ≤ ww1.heap.size) := HG.out.below.size
        replace HA := Lib.hid (HA.out.gr hb)
        replace HG := Lib.hid (HG.out.step hb)
        clear hb
        generalize ww1.alloc (.cells #[i64 0, i64 0, i64 0, i64 0, i64 0] 52) = ww2 at HA HG Hv ⊢
        generalize ww1.heap.size = bv at Hv Hsv ⊢
        refine hK.out _ _ HA.out (fun _ => ?_)
        (try simp only [Act.put, List.setIfInBounds_toArray, List.set_cons_zero, List.set_cons_succ])
        clear hK K
        try clear ww1
        refine ⟨?_, ?_⟩
        · refine runT rfl (fun K hK => ?_)
          go_simp
          go_at_call 36
          refine (unpack_gr y _ y0 y1).mono ?_
          rintro r ww3 ⟨rfl, hb⟩
          (try go_wp2_with fail)
          replace Hv := Lib.hid (Hv.out.later hb.below)
          replace HA := Lib.hid (HA.out.gr hb)
          replace HG := Lib.hid (HG.out.step hb)
          clear hb
          refine hK.out _ _ HA.out (fun _ => ?_)
          (try simp only [Act.put, List.setIfInBounds_toArray, List.set_cons_zero, List.set_cons_succ])
          clear hK K
          try clear ww2
          refine runT rfl (fun K hK => ?_)
          go_simp
          have hb := (Gr.refl ww3).new (.cells #[i64 0, i64 0, i64 0, i64 0, i64 0] 52)
          have Hw : Hid (IsObj (ww3.alloc (.cells #[i64 0, i64 0, i64 0, i64 0, i64 0] 52)) ww3.heap.size [i64 0, i64 0, i64 0, i64 0, i64 0]) := IsObj.made ww3 [i64 0, i64 0, i64 0, i64 0, i64 0] 52
          have Hne : Hid (bv ≠ ww3.heap.size) := by have := Hv.out.lt; show _ ≠ _; omega
          replace Hv := Lib.hid (Hv.out.later hb.below)
          have Hsw : Hid (W.heap.size ≤ ww3.heap.size) := HG.out.below.size
          replace HA := Lib.hid (HA.out.gr hb)
          replace HG := Lib.hid (HG.out.step hb)
          clear hb
          generalize ww3.alloc (.cells #[i64 0, i64 0, i64 0, i64 0, i64 0] 52) = ww4 at HA HG Hw Hv ⊢
          generalize ww3.heap.size = bw at Hw Hsw Hne ⊢
          refine hK.out _ _ HA.out (fun _ => ?_)
          (try simp only [Act.put, List.setIfInBounds_toArray, List.set_cons_zero, List.set_cons_succ])
          clear hK K
          try clear ww3
          refine runT rfl (fun K hK => ?_)
          have q0 := Hv.out.at' 0 _ rfl
          have q1 := Hv.out.at' 1 _ rfl
          have q2 := Hv.out.at' 2 _ rfl
          have q3 := Hv.out.at' 3 _ rfl
          have q4 := Hv.out.at' 4 _ rfl
          have f0 := Hv.out.fz 0
          have f1 := Hv.out.fz 1
          have f2 := Hv.out.fz 2
          have f3 := Hv.out.fz 3
          have f4 := Hv.out.fz 4
          go_simp
          clear q0 q1 q2 q3 q4 f0 f1 f2 f3 f4
          obtain ⟨g1, g2, g3⟩ := set5 HG.out Hv.out Hsv.out (i64 (x % 4)) (i64 (x / 4 % 2)) (i64 (x / 8 % 8192)) (i64 (x / 65536 % 16777216)) (i64 (x / 1099511627776))
          replace HG := Lib.hid g1
          replace Hv := Lib.hid g2
          replace Hw := Lib.hid (g3 _ _ Hw.out Hne.out)
          clear g1 g2 g3
          generalize ((((ww4.setCell ⟨bv, 0, none⟩ (i64 (x % 4))).setCell ⟨bv, 1, none⟩ (i64 (x / 4 % 2))).setCell ⟨bv, 2, none⟩ (i64 (x / 8 % 8192))).setCell ⟨bv, 3, none⟩ (i64 (x / 65536 % 16777216))).setCell ⟨bv, 4, none⟩ (i64 (x / 1099511627776)) = wy at HG Hv Hw ⊢
          replace HA := Lib.hid (HA0.out.gr HG.out)
          refine hK.out _ _ HA.out (fun _ => ?_)
          (try simp only [Act.put, List.setIfInBounds_toArray, List.set_cons_zero, List.set_cons_succ])
          clear hK K
          refine runT rfl (fun K hK => ?_)
          have q0 := Hw.out.at' 0 _ rfl
          have q1 := Hw.out.at' 1 _ rfl
          have q2 := Hw.out.at' 2 _ rfl
          have q3 := Hw.out.at' 3 _ rfl
          have q4 := Hw.out.at' 4 _ rfl
          have f0 := Hw.out.fz 0
          have f1 := Hw.out.fz 1
          have f2 := Hw.out.fz 2
          have f3 := Hw.out.fz 3
          have f4 := Hw.out.fz 4
          go_simp
          clear q0 q1 q2 q3 q4 f0 f1 f2 f3 f4
          obtain ⟨g1, g2, g3⟩ := set5 HG.out Hw.out Hsw.out (i64 (y % 4)) (i64 (y / 4 % 2)) (i64 (y / 8 % 8192)) (i64 (y / 65536 % 16777216)) (i64 (y / 1099511627776))
          replace HG := Lib.hid g1
          replace Hw := Lib.hid g2
          replace Hv := Lib.hid (g3 _ _ Hv.out (fun e => Hne.out e.symm))
          clear g1 g2 g3
          generalize ((((wy.setCell ⟨bw, 0, none⟩ (i64 (y % 4))).setCell ⟨bw, 1, none⟩ (i64 (y / 4 % 2))).setCell ⟨bw, 2, none⟩ (i64 (y / 8 % 8192))).setCell ⟨bw, 3, none⟩ (i64 (y / 65536 % 16777216))).setCell ⟨bw, 4, none⟩ (i64 (y / 1099511627776)) = wz at HG Hv Hw ⊢
          replace HA := Lib.hid (HA0.out.gr HG.out)
          refine hK.out _ _ HA.out (fun _ => ?_)
          (try simp only [Act.put, List.setIfInBounds_toArray, List.set_cons_zero, List.set_cons_succ])
          clear hK K
          refine seqT_done ?_
          go_wp2_with fail
          go_meet
          exact ⟨bv, bw, rfl, rfl, Hv, Hw, HG⟩
        · refine runT rfl (fun K hK => ?_)
          go_simp
          have hb := (Gr.refl ww2).new (.cells #[i64 0, i64 0, i64 0, i64 0, i64 0] 52)
          have Hw : Hid (IsObj (ww2.alloc (.cells #[i64 0, i64 0, i64 0, i64 0, i64 0] 52)) ww2.heap.size [i64 0, i64 0, i64 0, i64 0, i64 0]) := IsObj.made ww2 [i64 0, i64 0, i64 0, i64 0, i64 0] 52
          have Hne : Hid (bv ≠ ww2.heap.size) := by have := Hv.out.lt; show _ ≠ _; omega
          replace Hv := Lib.hid (Hv.out.later hb.below)
          have Hsw : Hid (W.heap.size ≤ ww2.heap.size) := HG.out.below.size
          replace HA := Lib.hid (HA.out.gr hb)
          replace HG := Lib.hid (HG.out.step hb)
          clear hb
          generalize ww2.alloc (.cells #[i64 0, i64 0, i64 0, i64 0, i64 0] 52) = ww3 at HA HG Hw Hv ⊢
          generalize ww2.heap.size = bw at Hw Hsw Hne ⊢
          refine hK.out _ _ HA.out (fun _ => ?_)
          (try simp only [Act.put, List.setIfInBounds_toArray, List.set_cons_zero, List.set_cons_succ])
          clear hK K
          try clear ww2
          refine runT rfl (fun K hK => ?_)
          go_simp
          go_at_call 36
          refine (unpack_gr y _ y0 y1).mono ?_
          rintro r ww4 ⟨rfl, hb⟩
          (try go_wp2_with fail)
          replace Hv := Lib.hid (Hv.out.later hb.below)
          replace Hw := Lib.hid (Hw.out.later hb.below)
          replace HA := Lib.hid (HA.out.gr hb)
          replace HG := Lib.hid (HG.out.step hb)
          clear hb
          refine hK.out _ _ HA.out (fun _ => ?_)
          (try simp only [Act.put, List.setIfInBounds_toArray, List.set_cons_zero, List.set_cons_succ])
          clear hK K
          try clear ww3
          refine runT rfl (fun K hK => ?_)
          have q0 := Hv.out.at' 0 _ rfl
          have q1 := Hv.out.at' 1 _ rfl
          have q2 := Hv.out.at' 2 _ rfl
          have q3 := Hv.out.at' 3 _ rfl
          have q4 := Hv.out.at' 4 _ rfl
          have f0 := Hv.out.fz 0
          have f1 := Hv.out.fz 1
          have f2 := Hv.out.fz 2
          have f3 := Hv.out.fz 3
          have f4 := Hv.out.fz 4
          go_simp
          clear q0 q1 q2 q3 q4 f0 f1 f2 f3 f4
          obtain ⟨g1, g2, g3⟩ := set5 HG.out Hv.out Hsv.out (i64 (x % 4)) (i64 (x / 4 % 2)) (i64 (x / 8 % 8192)) (i64 (x / 65536 % 16777216)) (i64 (x / 1099511627776))
          replace HG := Lib.hid g1
          replace Hv := Lib.hid g2
          replace Hw := Lib.hid (g3 _ _ Hw.out Hne.out)
          clear g1 g2 g3
          generalize ((((ww4.setCell ⟨bv, 0, none⟩ (i64 (x % 4))).setCell ⟨bv, 1, none⟩ (i64 (x / 4 % 2))).setCell ⟨bv, 2, none⟩ (i64 (x / 8 % 8192))).setCell ⟨bv, 3, none⟩ (i64 (x / 65536 % 16777216))).setCell ⟨bv, 4, none⟩ (i64 (x / 1099511627776)) = wy at HG Hv Hw ⊢
          replace HA := Lib.hid (HA0.out.gr HG.out)
          refine hK.out _ _ HA.out (fun _ => ?_)
          (try simp only [Act.put, List.setIfInBounds_toArray, List.set_cons_zero, List.set_cons_succ])
          clear hK K
          refine runT rfl (fun K hK => ?_)
          have q0 := Hw.out.at' 0 _ rfl
          have q1 := Hw.out.at' 1 _ rfl
          have q2 := Hw.out.at' 2 _ rfl
          have q3 := Hw.out.at' 3 _ rfl
          have q4 := Hw.out.at' 4 _ rfl
          have f0 := Hw.out.fz 0
          have f1 := Hw.out.fz 1
          have f2 := Hw.out.fz 2
          have f3 := Hw.out.fz 3
          have f4 := Hw.out.fz 4
          go_simp
          clear q0 q1 q2 q3 q4 f0 f1 f2 f3 f4
          obtain ⟨g1, g2, g3⟩ := set5 HG.out Hw.out Hsw.out (i64 (y % 4)) (i64 (y / 4 % 2)) (i64 (y / 8 % 8192)) (i64 (y / 65536 % 16777216)) (i64 (y / 1099511627776))
          replace HG := Lib.hid g1
          replace Hw := Lib.hid g2
          replace Hv := Lib.hid (g3 _ _ Hv.out (fun e => Hne.out e.symm))
          clear g1 g2 g3
          generalize ((((wy.setCell ⟨bw, 0, none⟩ (i64 (y % 4))).setCell ⟨bw, 1, none⟩ (i64 (y / 4 % 2))).setCell ⟨bw, 2, none⟩ (i64 (y / 8 % 8192))).setCell ⟨bw, 3, none⟩ (i64 (y / 65536 % 16777216))).setCell ⟨bw, 4, none⟩ (i64 (y / 1099511627776)) = wz at HG Hv Hw ⊢
          replace HA := Lib.hid (HA0.out.gr HG.out)
          refine hK.out _ _ HA.out (fun _ => ?_)
          (try simp only [Act.put, List.setIfInBounds_toArray, List.set_cons_zero, List.set_cons_succ])
          clear hK K
          refine seqT_done ?_
          go_wp2_with fail
          go_meet
          exact ⟨bv, bw, rfl, rfl, Hv, Hw, HG⟩
      · refine runT rfl (fun K hK => ?_)
        go_simp
        have hb := (Gr.refl ww1).new (.cells #[i64 0, i64 0, i64 0, i64 0, i64 0] 52)
        have Hw : Hid (IsObj (ww1.alloc (.cells #[i64 0, i64 0, i64 0, i64 0, i64 0] 52)) ww1.heap.size [i64 0, i64 0, i64 0, i64 0, i64 0]) := IsObj.made ww1 [i64 0, i64 0, i64 0, i64 0, i64 0] 52
        have Hsw : Hid (W.heap.size ≤ ww1.heap.size) := HG.out.below.size
        replace HA := Lib.hid (HA.out.gr hb)
        replace HG := Lib.hid (HG.out.step hb)
        clear hb
        generalize ww1.alloc (.cells #[i64 0, i64 0, i64 0, i64 0, i64 0] 52) = ww2 at HA HG Hw ⊢
        generalize ww1.heap.size = bw at Hw Hsw ⊢
        refine hK.out _ _ HA.out (fun _ => ?_)
        (try simp only [Act.put, List.setIfInBounds_toArray, List.set_cons_zero, List.set_cons_succ])
        clear hK K
        try clear ww1
        refine ⟨?_, ?_⟩
        · refine runT rfl (fun K hK => ?_)
          go_simp
          go_at_call 36
          refine (unpack_gr y _ y0 y1).mono ?_
          rintro r ww3 ⟨rfl, hb⟩
          (try go_wp2_with fail)
          replace Hw := Lib.hid (Hw.out.later hb.below)
          replace HA := Lib.hid (HA.out.gr hb)
          replace HG := Lib.hid (HG.out.step hb)
          clear hb
          refine hK.out _ _ HA.out (fun _ => ?_)
          (try simp only [Act.put, List.setIfInBounds_toArray, List.set_cons_zero, List.set_cons_succ])
          clear hK K
          try clear ww2
          refine runT rfl (fun K hK => ?_)
          go_simp
          have hb := (Gr.refl ww3).new (.cells #[i64 0, i64 0, i64 0, i64 0, i64 0] 52)
          have Hv : Hid (IsObj (ww3.alloc (.cells #[i64 0, i64 0, i64 0, i64 0, i64 0] 52)) ww3.heap.size [i64 0, i64 0, i64 0, i64 0, i64 0]) := IsObj.made ww3 [i64 0, i64 0, i64 0, i64 0, i64 0] 52
          have Hne : Hid (ww3.heap.size ≠ bw) := by have := Hw.out.lt; show _ ≠ _; omega
          replace Hw := Lib.hid (Hw.out.later hb.below)
          have Hsv : Hid (W.heap.size ≤ ww3.heap.size) := HG.out.below.size
          replace HA := Lib.hid (HA.out.gr hb)
          replace HG := Lib.hid (HG.out.step hb)
          clear hb
          generalize ww3.alloc (.cells #[i64 0, i64 0, i64 0, i64 0, i64 0] 52) = ww4 at HA HG Hv Hw ⊢
          generalize ww3.heap.size = bv at Hv Hsv Hne ⊢
          refine hK.out _ _ HA.out (fun _ => ?_)
          (try simp only [Act.put, List.setIfInBounds_toArray, List.set_cons_zero, List.set_cons_succ])
          clear hK K
          try clear ww3
          refine runT rfl (fun K hK => ?_)
          have q0 := Hv.out.at' 0 _ rfl
          have q1 := Hv.out.at' 1 _ rfl
          have q2 := Hv.out.at' 2 _ rfl
          have q3 := Hv.out.at' 3 _ rfl
          have q4 := Hv.out.at' 4 _ rfl
          have f0 := Hv.out.fz 0
          have f1 := Hv.out.fz 1
          have f2 := Hv.out.fz 2
          have f3 := Hv.out.fz 3
          have f4 := Hv.out.fz 4
          go_simp
          clear q0 q1 q2 q3 q4 f0 f1 f2 f3 f4
          obtain ⟨g1, g2, g3⟩ := set5 HG.out Hv.out Hsv.out (i64 (x % 4)) (i64 (x / 4 % 2)) (i64 (x / 8 % 8192)) (i64 (x / 65536 % 16777216)) (i64 (x / 1099511627776))
          replace HG := Lib.hid g1
          replace Hv := Lib.hid g2
          replace Hw := Lib.hid (g3 _ _ Hw.out Hne.out)
          clear g1 g2 g3
          generalize ((((ww4.setCell ⟨bv, 0, none⟩ (i64 (x % 4))).setCell ⟨bv, 1, none⟩ (i64 (x / 4 % 2))).setCell ⟨bv, 2, none⟩ (i64 (x / 8 % 8192))).setCell ⟨bv, 3, none⟩ (i64 (x / 65536 % 16777216))).setCell ⟨bv, 4, none⟩ (i64 (x / 1099511627776)) = wy at HG Hv Hw ⊢
          replace HA := Lib.hid (HA0.out.gr HG.out)
          refine hK.out _ _ HA.out (fun _ => ?_)
          (try simp only [Act.put, List.setIfInBounds_toArray, List.set_cons_zero, List.set_cons_succ])
          clear hK K
          refine runT rfl (fun K hK => ?_)
          have q0 := Hw.out.at' 0 _ rfl
          have q1 := Hw.out.at' 1 _ rfl
          have q2 := Hw.out.at' 2 _ rfl
          have q3 := Hw.out.at' 3 _ rfl
          have q4 := Hw.out.at' 4 _ rfl
          have f0 := Hw.out.fz 0
          have f1 := Hw.out.fz 1
          have f2 := Hw.out.fz 2
          have f3 := Hw.out.fz 3
          have f4 := Hw.out.fz 4
          go_simp
          clear q0 q1 q2 q3 q4 f0 f1 f2 f3 f4
          obtain ⟨g1, g2, g3⟩ := set5 HG.out Hw.out Hsw.out (i64 (y % 4)) (i64 (y / 4 % 2)) (i64 (y / 8 % 8192)) (i64 (y / 65536 % 16777216)) (i64 (y / 1099511627776))
          replace HG := Lib.hid g1
          replace Hw := Lib.hid g2
          replace Hv := Lib.hid (g3 _ _ Hv.out (fun e => Hne.out e.symm))
          clear g1 g2 g3
          generalize ((((wy.setCell ⟨bw, 0, none⟩ (i64 (y % 4))).setCell ⟨bw, 1, none⟩ (i64 (y / 4 % 2))).setCell ⟨bw, 2, none⟩ (i64 (y / 8 % 8192))).setCell ⟨bw, 3, none⟩ (i64 (y / 65536 % 16777216))).setCell ⟨bw, 4, none⟩ (i64 (y / 1099511627776)) = wz at HG Hv Hw ⊢
          replace HA := Lib.hid (HA0.out.gr HG.out)
          refine hK.out _ _ HA.out (fun _ => ?_)
          (try simp only [Act.put, List.setIfInBounds_toArray, List.set_cons_zero, List.set_cons_succ])
          clear hK K
          refine seqT_done ?_
          go_wp2_with fail
          go_meet
          exact ⟨bv, bw, rfl, rfl, Hv, Hw, HG⟩
        · refine runT rfl (fun K hK => ?_)
          go_simp
          have hb := (Gr.refl ww2).new (.cells #[i64 0, i64 0, i64 0, i64 0, i64 0] 52)
          have Hv : Hid (IsObj (ww2.alloc (.cells #[i64 0, i64 0, i64 0, i64 0, i64 0] 52)) ww2.heap.size [i64 0, i64 0, i64 0, i64 0, i64 0]) := IsObj.made ww2 [i64 0, i64 0, i64 0, i64 0, i64 0] 52
          have Hne : Hid (ww2.heap.size ≠ bw) := by have := Hw.out.lt; show _ ≠ _; omega
          replace Hw := Lib.hid (Hw.out.later hb.below)
          have Hsv : Hid (W.heap.size ≤ ww2.heap.size) := HG.out.below.size
          replace HA := Lib.hid (HA.out.gr hb)
          replace HG := Lib.hid (HG.out.step hb)
          clear hb
          generalize ww2.alloc (.cells #[i64 0, i64 0, i64 0, i64 0, i64 0] 52) = ww3 at HA HG Hv Hw ⊢
          generalize ww2.heap.size = bv at Hv Hsv Hne ⊢
          refine hK.out _ _ HA.out (fun _ => ?_)
          (try simp only [Act.put, List.setIfInBounds_toArray, List.set_cons_zero, List.set_cons_succ])
          clear hK K
          try clear ww2
          refine runT rfl (fun K hK => ?_)
          go_simp
          go_at_call 36
          refine (unpack_gr y _ y0 y1).mono ?_
          rintro r ww4 ⟨rfl, hb⟩
          (try go_wp2_with fail)
          replace Hv := Lib.hid (Hv.out.later hb.below)
          replace Hw := Lib.hid (Hw.out.later hb.below)
          replace HA := Lib.hid (HA.out.gr hb)
          replace HG := Lib.hid (HG.out.step hb)
          clear hb
          refine hK.out _ _ HA.out (fun _ => ?_)
          (try simp only [Act.put, List.setIfInBounds_toArray, List.set_cons_zero, List.set_cons_succ])
          clear hK K
          try clear ww3
          refine runT rfl (fun K hK => ?_)
          have q0 := Hv.out.at' 0 _ rfl
          have q1 := Hv.out.at' 1 _ rfl
          have q2 := Hv.out.at' 2 _ rfl
          have q3 := Hv.out.at' 3 _ rfl
          have q4 := Hv.out.at' 4 _ rfl
          have f0 := Hv.out.fz 0
          have f1 := Hv.out.fz 1
          have f2 := Hv.out.fz 2
          have f3 := Hv.out.fz 3
          have f4 := Hv.out.fz 4
          go_simp
          clear q0 q1 q2 q3 q4 f0 f1 f2 f3 f4
          obtain ⟨g1, g2, g3⟩ := set5 HG.out Hv.out Hsv.out (i64 (x % 4)) (i64 (x / 4 % 2)) (i64 (x / 8 % 8192)) (i64 (x / 65536 % 16777216)) (i64 (x / 1099511627776))
          replace HG := Lib.hid g1
          replace Hv := Lib.hid g2
          replace Hw := Lib.hid (g3 _ _ Hw.out Hne.out)
          clear g1 g2 g3
          generalize ((((ww4.setCell ⟨bv, 0, none⟩ (i64 (x % 4))).setCell ⟨bv, 1, none⟩ (i64 (x / 4 % 2))).setCell ⟨bv, 2, none⟩ (i64 (x / 8 % 8192))).setCell ⟨bv, 3, none⟩ (i64 (x / 65536 % 16777216))).setCell ⟨bv, 4, none⟩ (i64 (x / 1099511627776)) = wy at HG Hv Hw ⊢
          replace HA := Lib.hid (HA0.out.gr HG.out)
          refine hK.out _ _ HA.out (fun _ => ?_)
          (try simp only [Act.put, List.setIfInBounds_toArray, List.set_cons_zero, List.set_cons_succ])
          clear hK K
          refine runT rfl (fun K hK => ?_)
          have q0 := Hw.out.at' 0 _ rfl
          have q1 := Hw.out.at' 1 _ rfl
          have q2 := Hw.out.at' 2 _ rfl
          have q3 := Hw.out.at' 3 _ rfl
          have q4 := Hw.out.at' 4 _ rfl
          have f0 := Hw.out.fz 0
          have f1 := Hw.out.fz 1
          have f2 := Hw.out.fz 2
          have f3 := Hw.out.fz 3
          have f4 := Hw.out.fz 4
          go_simp
          clear q0 q1 q2 q3 q4 f0 f1 f2 f3 f4
          obtain ⟨g1, g2, g3⟩ := set5 HG.out Hw.out Hsw.out (i64 (y % 4)) (i64 (y / 4 % 2)) (i64 (y / 8 % 8192)) (i64 (y / 65536 % 16777216)) (i64 (y / 1099511627776))
          replace HG := Lib.hid g1
          replace Hw := Lib.hid g2
          replace Hv := Lib.hid (g3 _ _ Hv.out (fun e => Hne.out e.symm))
          clear g1 g2 g3
          generalize ((((wy.setCell ⟨bw, 0, none⟩ (i64 (y % 4))).setCell ⟨bw, 1, none⟩ (i64 (y / 4 % 2))).setCell ⟨bw, 2, none⟩ (i64 (y / 8 % 8192))).setCell ⟨bw, 3, none⟩ (i64 (y / 65536 % 16777216))).setCell ⟨bw, 4, none⟩ (i64 (y / 1099511627776)) = wz at HG Hv Hw ⊢
          replace HA := Lib.hid (HA0.out.gr HG.out)
          refine hK.out _ _ HA.out (fun _ => ?_)
          (try simp only [Act.put, List.setIfInBounds_toArray, List.set_cons_zero, List.set_cons_succ])
          clear hK K
          refine seqT_done ?_
          go_wp2_with fail
          go_meet
          exact ⟨bv, bw, rfl, rfl, Hv, Hw, HG⟩
    · refine runT rfl (fun K hK => ?_)
      go_simp
      have hb := (Gr.refl ww0).new (.cells #[i64 0, i64 0, i64 0, i64 0, i64 0] 52)
      have Hv : Hid (IsObj (ww0.alloc (.cells #[i64 0, i64 0, i64 0, i64 0, i64 0] 52)) ww0.heap.size [i64 0, i64 0, i64 0, i64 0, i64 0]) := IsObj.made ww0 [i64 0, i64 0, i64 0, i64 0, i64 0] 52
      have Hsv : Hid (W.heap.size ≤ ww0.heap.size) := HG.out.below.size
      replace HA := Lib.hid (HA.out.gr hb)
      replace HG := Lib.hid (HG.out.step hb)
      clear hb
      generalize ww0.alloc (.cells #[i64 0, i64 0, i64 0, i64 0, i64 0] 52) = ww1 at HA HG Hv ⊢
      generalize ww0.heap.size = bv at Hv Hsv ⊢
      refine hK.out _ _ HA.out (fun _ => ?_)
      (try simp only [Act.put, List.setIfInBounds_toArray, List.set_cons_zero, List.set_cons_succ])
      clear hK K
      try clear ww0
      refine ⟨?_, ?_⟩
      · refine runT rfl (fun K hK => ?_)
        go_simp
        go_at_call 36
        refine (unpack_gr x _ x0 x1).mono ?_
        rintro r ww2 ⟨rfl, hb⟩
        (try go_wp2_with fail)
        replace Hv := Lib.hid (Hv.out.later hb.below)
        replace HA := Lib.hid (HA.out.gr hb)
        replace HG := Lib.hid (HG.out.step hb)
        clear hb
        refine hK.out _ _ HA.out (fun _ => ?_)
        (try simp only [Act.put, List.setIfInBounds_toArray, List.set_cons_zero, List.set_cons_succ])
        clear hK K
        try clear ww1
        refine ⟨?_, ?_⟩
        · refine runT rfl (fun K hK => ?_)
          go_simp
          go_at_call 36
          refine (unpack_gr y _ y0 y1).mono ?_
          rintro r ww3 ⟨rfl, hb⟩
          (try go_wp2_with fail)
          replace Hv := Lib.hid (Hv.out.later hb.below)
          replace HA := Lib.hid (HA.out.gr hb)
          replace HG := Lib.hid (HG.out.step hb)
          clear hb
          refine hK.out _ _ HA.out (fun _ => ?_)
          (try simp only [Act.put, List.setIfInBounds_toArray, List.set_cons_zero, List.set_cons_succ])
          clear hK K
          try clear ww2
          refine runT rfl (fun K hK => ?_)
          go_simp
          have hb := (Gr.refl ww3).new (.cells #[i64 0, i64 0, i64 0, i64 0, i64 0] 52)
          have Hw : Hid (IsObj (ww3.alloc (.cells #[i64 0, i64 0, i64 0, i64 0, i64 0] 52)) ww3.heap.size [i64 0, i64 0, i64 0, i64 0, i64 0]) := IsObj.made ww3 [i64 0, i64 0, i64 0, i64 0, i64 0] 52
          have Hne : Hid (bv ≠ ww3.heap.size) := by have := Hv.out.lt; show _ ≠ _; omega
          replace Hv := Lib.hid (Hv.out.later hb.below)
          have Hsw : Hid (W.heap.size ≤ ww3.heap.size) := HG.out.below.size
          replace HA := Lib.hid (HA.out.gr hb)
          replace HG := Lib.hid (HG.out.step hb)
          clear hb
          generalize ww3.alloc (.cells #[i64 0, i64 0, i64 0, i64 0, i64 0] 52) = ww4 at HA HG Hw Hv ⊢
          generalize ww3.heap.size = bw at Hw Hsw Hne ⊢
          refine hK.out _ _ HA.out (fun _ => ?_)
          (try simp only [Act.put, List.setIfInBounds_toArray, List.set_cons_zero, List.set_cons_succ])
          clear hK K
          try clear ww3
          refine runT rfl (fun K hK => ?_)
          have q0 := Hv.out.at' 0 _ rfl
          have q1 := Hv.out.at' 1 _ rfl
          have q2 := Hv.out.at' 2 _ rfl
          have q3 := Hv.out.at' 3 _ rfl
          have q4 := Hv.out.at' 4 _ rfl
          have f0 := Hv.out.fz 0
          have f1 := Hv.out.fz 1
          have f2 := Hv.out.fz 2
          have f3 := Hv.out.fz 3
          have f4 := Hv.out.fz 4
          go_simp
          clear q0 q1 q2 q3 q4 f0 f1 f2 f3 f4
          obtain ⟨g1, g2, g3⟩ := set5 HG.out Hv.out Hsv.out (i64 (x % 4)) (i64 (x / 4 % 2)) (i64 (x / 8 % 8192)) (i64 (x / 65536 % 16777216)) (i64 (x / 1099511627776))
          replace HG := Lib.hid g1
          replace Hv := Lib.hid g2
          replace Hw := Lib.hid (g3 _ _ Hw.out Hne.out)
          clear g1 g2 g3
          generalize ((((ww4.setCell ⟨bv, 0, none⟩ (i64 (x % 4))).setCell ⟨bv, 1, none⟩ (i64 (x / 4 % 2))).setCell ⟨bv, 2, none⟩ (i64 (x / 8 % 8192))).setCell ⟨bv, 3, none⟩ (i64 (x / 65536 % 16777216))).setCell ⟨bv, 4, none⟩ (i64 (x / 1099511627776)) = wy at HG Hv Hw ⊢
          replace HA := Lib.hid (HA0.out.gr HG.out)
          refine hK.out _ _ HA.out (fun _ => ?_)
          (try simp only [Act.put, List.setIfInBounds_toArray, List.set_cons_zero, List.set_cons_succ])
          clear hK K
          refine runT rfl (fun K hK => ?_)
          have q0 := Hw.out.at' 0 _ rfl
          have q1 := Hw.out.at' 1 _ rfl
          have q2 := Hw.out.at' 2 _ rfl
          have q3 := Hw.out.at' 3 _ rfl
          have q4 := Hw.out.at' 4 _ rfl
          have f0 := Hw.out.fz 0
          have f1 := Hw.out.fz 1
          have f2 := Hw.out.fz 2
          have f3 := Hw.out.fz 3
          have f4 := Hw.out.fz 4
          go_simp
          clear q0 q1 q2 q3 q4 f0 f1 f2 f3 f4
          obtain ⟨g1, g2, g3⟩ := set5 HG.out Hw.out Hsw.out (i64 (y % 4)) (i64 (y / 4 % 2)) (i64 (y / 8 % 8192)) (i64 (y / 65536 % 16777216)) (i64 (y / 1099511627776))
          replace HG := Lib.hid g1
          replace Hw := Lib.hid g2
          replace Hv := Lib.hid (g3 _ _ Hv.out (fun e => Hne.out e.symm))
          clear g1 g2 g3
          generalize ((((wy.setCell ⟨bw, 0, none⟩ (i64 (y % 4))).setCell ⟨bw, 1, none⟩ (i64 (y / 4 % 2))).setCell ⟨bw, 2, none⟩ (i64 (y / 8 % 8192))).setCell ⟨bw, 3, none⟩ (i64 (y / 65536 % 16777216))).setCell ⟨bw, 4, none⟩ (i64 (y / 1099511627776)) = wz at HG Hv Hw ⊢
          replace HA := Lib.hid (HA0.out.gr HG.out)
          refine hK.out _ _ HA.out (fun _ => ?_)
          (try simp only [Act.put, List.setIfInBounds_toArray, List.set_cons_zero, List.set_cons_succ])
          clear hK K
          refine seqT_done ?_
          go_wp2_with fail
          go_meet
          exact ⟨bv, bw, rfl, rfl, Hv, Hw, HG⟩
        · refine runT rfl (fun K hK => ?_)
          go_simp
          have hb := (Gr.refl ww2).new (.cells #[i64 0, i64 0, i64 0, i64 0, i64 0] 52)
          have Hw : Hid (IsObj (ww2.alloc (.cells #[i64 0, i64 0, i64 0, i64 0, i64 0] 52)) ww2.heap.size [i64 0, i64 0, i64 0, i64 0, i64 0]) := IsObj.made ww2 [i64 0, i64 0, i64 0, i64 0, i64 0] 52
          have Hne : Hid (bv ≠ ww2.heap.size) := by have := Hv.out.lt; show _ ≠ _; omega
          replace Hv := Lib.hid (Hv.out.later hb.below)
          have Hsw : Hid (W.heap.size ≤ ww2.heap.size) := HG.out.below.size
          replace HA := Lib.hid (HA.out.gr hb)
          replace HG := Lib.hid (HG.out.step hb)
          clear hb
          generalize ww2.alloc (.cells #[i64 0, i64 0, i64 0, i64 0, i64 0] 52) = ww3 at HA HG Hw Hv ⊢
          generalize ww2.heap.size = bw at Hw Hsw Hne ⊢
          refine hK.out _ _ HA.out (fun _ => ?_)
          (try simp only [Act.put, List.setIfInBounds_toArray, List.set_cons_zero, List.set_cons_succ])
          clear hK K
          try clear ww2
          refine runT rfl (fun K hK => ?_)
          go_simp
          go_at_call 36
          refine (unpack_gr y _ y0 y1).mono ?_
          rintro r ww4 ⟨rfl, hb⟩
          (try go_wp2_with fail)
          replace Hv := Lib.hid (Hv.out.later hb.below)
          replace Hw := Lib.hid (Hw.out.later hb.below)
          replace HA := Lib.hid (HA.out.gr hb)
          replace HG := Lib.hid (HG.out.step hb)
          clear hb
          refine hK.out _ _ HA.out (fun _ => ?_)
          (try simp only [Act.put, List.setIfInBounds_toArray, List.set_cons_zero, List.set_cons_succ])
          clear hK K
          try clear ww3
          refine runT rfl (fun K hK => ?_)
          have q0 := Hv.out.at' 0 _ rfl
          have q1 := Hv.out.at' 1 _ rfl
          have q2 := Hv.out.at' 2 _ rfl
          have q3 := Hv.out.at' 3 _ rfl
          have q4 := Hv.out.at' 4 _ rfl
          have f0 := Hv.out.fz 0
          have f1 := Hv.out.fz 1
          have f2 := Hv.out.fz 2
          have f3 := Hv.out.fz 3
          have f4 := Hv.out.fz 4
          go_simp
          clear q0 q1 q2 q3 q4 f0 f1 f2 f3 f4
          obtain ⟨g1, g2, g3⟩ := set5 HG.out Hv.out Hsv.out (i64 (x % 4)) (i64 (x / 4 % 2)) (i64 (x / 8 % 8192)) (i64 (x / 65536 % 16777216)) (i64 (x / 1099511627776))
          replace HG := Lib.hid g1
          replace Hv := Lib.hid g2
          replace Hw := Lib.hid (g3 _ _ Hw.out Hne.out)
          clear g1 g2 g3
          generalize ((((ww4.setCell ⟨bv, 0, none⟩ (i64 (x % 4))).setCell ⟨bv, 1, none⟩ (i64 (x / 4 % 2))).setCell ⟨bv, 2, none⟩ (i64 (x / 8 % 8192))).setCell ⟨bv, 3, none⟩ (i64 (x / 65536 % 16777216))).setCell ⟨bv, 4, none⟩ (i64 (x / 1099511627776)) = wy at HG Hv Hw ⊢
          replace HA := Lib.hid (HA0.out.gr HG.out)
          refine hK.out _ _ HA.out (fun _ => ?_)
          (try simp only [Act.put, List.setIfInBounds_toArray, List.set_cons_zero, List.set_cons_succ])
          clear hK K
          refine runT rfl (fun K hK => ?_)
          have q0 := Hw.out.at' 0 _ rfl
          have q1 := Hw.out.at' 1 _ rfl
          have q2 := Hw.out.at' 2 _ rfl
          have q3 := Hw.out.at' 3 _ rfl
          have q4 := Hw.out.at' 4 _ rfl
          have f0 := Hw.out.fz 0
          have f1 := Hw.out.fz 1
          have f2 := Hw.out.fz 2
          have f3 := Hw.out.fz 3
          have f4 := Hw.out.fz 4
          go_simp
          clear q0 q1 q2 q3 q4 f0 f1 f2 f3 f4
          obtain ⟨g1, g2, g3⟩ := set5 HG.out Hw.out Hsw.out (i64 (y % 4)) (i64 (y / 4 % 2)) (i64 (y / 8 % 8192)) (i64 (y / 65536 % 16777216)) (i64 (y / 1099511627776))
          replace HG := Lib.hid g1
          replace Hw := Lib.hid g2
          replace Hv := Lib.hid (g3 _ _ Hv.out (fun e => Hne.out e.symm))
          clear g1 g2 g3
          generalize ((((wy.setCell ⟨bw, 0, none⟩ (i64 (y % 4))).setCell ⟨bw, 1, none⟩ (i64 (y / 4 % 2))).setCell ⟨bw, 2, none⟩ (i64 (y / 8 % 8192))).setCell ⟨bw, 3, none⟩ (i64 (y / 65536 % 16777216))).setCell ⟨bw, 4, none⟩ (i64 (y / 1099511627776)) = wz at HG Hv Hw ⊢
          replace HA := Lib.hid (HA0.out.gr HG.out)
          refine hK.out _ _ HA.out (fun _ => ?_)
          (try simp only [Act.put, List.setIfInBounds_toArray, List.set_cons_zero, List.set_cons_succ])
          clear hK K
          refine seqT_done ?_
          go_wp2_with fail
          go_meet
          exact ⟨bv, bw, rfl, rfl, Hv, Hw, HG⟩
      · refine runT rfl (fun K hK => ?_)
        go_simp
        have hb := (Gr.refl ww1).new (.cells #[i64 0, i64 0, i64 0, i64 0, i64 0] 52)
        have Hw : Hid (IsObj (ww1.alloc (.cells #[i64 0, i64 0, i64 0, i64 0, i64 0] 52)) ww1.heap.size [i64 0, i64 0, i64 0, i64 0, i64 0]) := IsObj.made ww1 [i64 0, i64 0, i64 0, i64 0, i64 0] 52
        have Hne : Hid (bv ≠ ww1.heap.size) := by have := Hv.out.lt; show _ ≠ _; omega
        replace Hv := Lib.hid (Hv.out.later hb.below)
        have Hsw : Hid (W.heap.size ≤ ww1.heap.size) := HG.out.below.size
        replace HA := Lib.hid (HA.out.gr hb)
        replace HG := Lib.hid (HG.out.step hb)
        clear hb
        generalize ww1.alloc (.cells #[i64 0, i64 0, i64 0, i64 0, i64 0] 52) = ww2 at HA HG Hw Hv ⊢
        generalize ww1.heap.size = bw at Hw Hsw Hne ⊢
        refine hK.out _ _ HA.out (fun _ => ?_)
        (try simp only [Act.put, List.setIfInBounds_toArray, List.set_cons_zero, List.set_cons_succ])
        clear hK K
        try clear ww1
        refine runT rfl (fun K hK => ?_)
        go_simp
        go_at_call 36
        refine (unpack_gr x _ x0 x1).mono ?_
        rintro r ww3 ⟨rfl, hb⟩
        (try go_wp2_with fail)
        replace Hv := Lib.hid (Hv.out.later hb.below)
        replace Hw := Lib.hid (Hw.out.later hb.below)
        replace HA := Lib.hid (HA.out.gr hb)
        replace HG := Lib.hid (HG.out.step hb)
        clear hb
        refine hK.out _ _ HA.out (fun _ => ?_)
        (try simp only [Act.put, List.setIfInBounds_toArray, List.set_cons_zero, List.set_cons_succ])
        clear hK K
        try clear ww2
        refine runT rfl (fun K hK => ?_)
        go_simp
        go_at_call 36
        refine (unpack_gr y _ y0 y1).mono ?_
        rintro r ww4 ⟨rfl, hb⟩
        (try go_wp2_with fail)
        replace Hv := Lib.hid (Hv.out.later hb.below)
        replace Hw := Lib.hid (Hw.out.later hb.below)
        replace HA := Lib.hid (HA.out.gr hb)
        replace HG := Lib.hid (HG.out.step hb)
        clear hb
        refine hK.out _ _ HA.out (fun _ => ?_)
        (try simp only [Act.put, List.setIfInBounds_toArray, List.set_cons_zero, List.set_cons_succ])
        clear hK K
        try clear ww3
        refine runT rfl (fun K hK => ?_)
        have q0 := Hv.out.at' 0 _ rfl
        have q1 := Hv.out.at' 1 _ rfl
        have q2 := Hv.out.at' 2 _ rfl
        have q3 := Hv.out.at' 3 _ rfl
        have q4 := Hv.out.at' 4 _ rfl
        have f0 := Hv.out.fz 0
        have f1 := Hv.out.fz 1
        have f2 := Hv.out.fz 2
        have f3 := Hv.out.fz 3
        have f4 := Hv.out.fz 4
        go_simp
        clear q0 q1 q2 q3 q4 f0 f1 f2 f3 f4
        obtain ⟨g1, g2, g3⟩ := set5 HG.out Hv.out Hsv.out (i64 (x % 4)) (i64 (x / 4 % 2)) (i64 (x / 8 % 8192)) (i64 (x / 65536 % 16777216)) (i64 (x / 1099511627776))
        replace HG := Lib.hid g1
        replace Hv := Lib.hid g2
        replace Hw := Lib.hid (g3 _ _ Hw.out Hne.out)
        clear g1 g2 g3
        generalize ((((ww4.setCell ⟨bv, 0, none⟩ (i64 (x % 4))).setCell ⟨bv, 1, none⟩ (i64 (x / 4 % 2))).setCell ⟨bv, 2, none⟩ (i64 (x / 8 % 8192))).setCell ⟨bv, 3, none⟩ (i64 (x / 65536 % 16777216))).setCell ⟨bv, 4, none⟩ (i64 (x / 1099511627776)) = wy at HG Hv Hw ⊢
        replace HA := Lib.hid (HA0.out.gr HG.out)
        refine hK.out _ _ HA.out (fun _ => ?_)
        (try simp only [Act.put, List.setIfInBounds_toArray, List.set_cons_zero, List.set_cons_succ])
        clear hK K
        refine runT rfl (fun K hK => ?_)
        have q0 := Hw.out.at' 0 _ rfl
        have q1 := Hw.out.at' 1 _ rfl
        have q2 := Hw.out.at' 2 _ rfl
        have q3 := Hw.out.at' 3 _ rfl
        have q4 := Hw.out.at' 4 _ rfl
        have f0 := Hw.out.fz 0
        have f1 := Hw.out.fz 1
        have f2 := Hw.out.fz 2
        have f3 := Hw.out.fz 3
        have f4 := Hw.out.fz 4
        go_simp
        clear q0 q1 q2 q3 q4 f0 f1 f2 f3 f4
        obtain ⟨g1, g2, g3⟩ := set5 HG.out Hw.out Hsw.out (i64 (y % 4)) (i64 (y / 4 % 2)) (i64 (y / 8 % 8192)) (i64 (y / 65536 % 16777216)) (i64 (y / 1099511627776))
        replace HG := Lib.hid g1
        replace Hw := Lib.hid g2
        replace Hv := Lib.hid (g3 _ _ Hv.out (fun e => Hne.out e.symm))
        clear g1 g2 g3
        generalize ((((wy.setCell ⟨bw, 0, none⟩ (i64 (y % 4))).setCell ⟨bw, 1, none⟩ (i64 (y / 4 % 2))).setCell ⟨bw, 2, none⟩ (i64 (y / 8 % 8192))).setCell ⟨bw, 3, none⟩ (i64 (y / 65536 % 16777216))).setCell ⟨bw, 4, none⟩ (i64 (y / 1099511627776)) = wz at HG Hv Hw ⊢
        replace HA := Lib.hid (HA0.out.gr HG.out)
        refine hK.out _ _ HA.out (fun _ => ?_)
        (try simp only [Act.put, List.setIfInBounds_toArray, List.set_cons_zero, List.set_cons_succ])
        clear hK K
        refine seqT_done ?_
        go_wp2_with fail
        go_meet
        exact ⟨bv, bw, rfl, rfl, Hv, Hw, HG⟩
    · refine runT rfl (fun K hK => ?_)
      go_simp
      have hb := (Gr.refl ww0).new (.cells #[i64 0, i64 0, i64 0, i64 0, i64 0] 52)
      have Hw : Hid (IsObj (ww0.alloc (.cells #[i64 0, i64 0, i64 0, i64 0, i64 0] 52)) ww0.heap.size [i64 0, i64 0, i64 0, i64 0, i64 0]) := IsObj.made ww0 [i64 0, i64 0, i64 0, i64 0, i64 0] 52
      have Hsw : Hid (W.heap.size ≤ ww0.heap.size) := HG.out.below.size
      replace HA := Lib.hid (HA.out.gr hb)
      replace HG := Lib.hid (HG.out.step hb)
      clear hb
      generalize ww0.alloc (.cells #[i64 0, i64 0, i64 0, i64 0, i64 0] 52) = ww1 at HA HG Hw ⊢
      generalize ww0.heap.size = bw at Hw Hsw ⊢
      refine hK.out _ _ HA.out (fun _ => ?_)
      (try simp only [Act.put, List.setIfInBounds_toArray, List.set_cons_zero, List.set_cons_succ])
      clear hK K
      try clear ww0
      refine ⟨?_, ?_⟩
      · refine runT rfl (fun K hK => ?_)
        go_simp
        go_at_call 36
        refine (unpack_gr x _ x0 x1).mono ?_
        rintro r ww2 ⟨rfl, hb⟩
        (try go_wp2_with fail)
        replace Hw := Lib.hid (Hw.out.later hb.below)
        replace HA := Lib.hid (HA.out.gr hb)
        replace HG := Lib.hid (HG.out.step hb)
        clear hb
        refine hK.out _ _ HA.out (fun _ => ?_)
        (try simp only [Act.put, List.setIfInBounds_toArray, List.set_cons_zero, List.set_cons_succ])
        clear hK K
        try clear ww1
        refine ⟨?_, ?_⟩
        · refine runT rfl (fun K hK => ?_)
          go_simp
          go_at_call 36
          refine (unpack_gr y _ y0 y1).mono ?_
          rintro r ww3 ⟨rfl, hb⟩
          (try go_wp2_with fail)
          replace Hw := Lib.hid (Hw.out.later hb.below)
          replace HA := Lib.hid (HA.out.gr hb)
          replace HG := Lib.hid (HG.out.step hb)
          clear hb
          refine hK.out _ _ HA.out (fun _ => ?_)
          (try simp only [Act.put, List.setIfInBounds_toArray, List.set_cons_zero, List.set_cons_succ])
          clear hK K
          try clear ww2
          refine runT rfl (fun K hK => ?_)
          go_simp
          have hb := (Gr.refl ww3).new (.cells #[i64 0, i64 0, i64 0, i64 0, i64 0] 52)
          have Hv : Hid (IsObj (ww3.alloc (.cells #[i64 0, i64 0, i64 0, i64 0, i64 0] 52)) ww3.heap.size [i64 0, i64 0, i64 0, i64 0, i64 0]) := IsObj.made ww3 [i64 0, i64 0, i64 0, i64 0, i64 0] 52
          have Hne : Hid (ww3.heap.size ≠ bw) := by have := Hw.out.lt; show _ ≠ _; omega
          replace Hw := Lib.hid (Hw.out.later hb.below)
          have Hsv : Hid (W.heap.size ≤ ww3.heap.size) := HG.out.below.size
          replace HA := Lib.hid (HA.out.gr hb)
          replace HG := Lib.hid (HG.out.step hb)
          clear hb
          generalize ww3.alloc (.cells #[i64 0, i64 0, i64 0, i64 0, i64 0] 52) = ww4 at HA HG Hv Hw ⊢
          generalize ww3.heap.size = bv at Hv Hsv Hne ⊢
          refine hK.out _ _ HA.out (fun _ => ?_)
          (try simp only [Act.put, List.setIfInBounds_toArray, List.set_cons_zero, List.set_cons_succ])
          clear hK K
          try clear ww3
          refine runT rfl (fun K hK => ?_)
          have q0 := Hv.out.at' 0 _ rfl
          have q1 := Hv.out.at' 1 _ rfl
          have q2 := Hv.out.at' 2 _ rfl
          have q3 := Hv.out.at' 3 _ rfl
          have q4 := Hv.out.at' 4 _ rfl
          have f0 := Hv.out.fz 0
          have f1 := Hv.out.fz 1
          have f2 := Hv.out.fz 2
          have f3 := Hv.out.fz 3
          have f4 := Hv.out.fz 4
          go_simp
          clear q0 q1 q2 q3 q4 f0 f1 f2 f3 f4
          obtain ⟨g1, g2, g3⟩ := set5 HG.out Hv.out Hsv.out (i64 (x % 4)) (i64 (x / 4 % 2)) (i64 (x / 8 % 8192)) (i64 (x / 65536 % 16777216)) (i64 (x / 1099511627776))
          replace HG := Lib.hid g1
          replace Hv := Lib.hid g2
          replace Hw := Lib.hid (g3 _ _ Hw.out Hne.out)
          clear g1 g2 g3
          generalize ((((ww4.setCell ⟨bv, 0, none⟩ (i64 (x % 4))).setCell ⟨bv, 1, none⟩ (i64 (x / 4 % 2))).setCell ⟨bv, 2, none⟩ (i64 (x / 8 % 8192))).setCell ⟨bv, 3, none⟩ (i64 (x / 65536 % 16777216))).setCell ⟨bv, 4, none⟩ (i64 (x / 1099511627776)) = wy at HG Hv Hw ⊢
          replace HA := Lib.hid (HA0.out.gr HG.out)
          refine hK.out _ _ HA.out (fun _ => ?_)
          (try simp only [Act.put, List.setIfInBounds_toArray, List.set_cons_zero, List.set_cons_succ])
          clear hK K
          refine runT rfl (fun K hK => ?_)
          have q0 := Hw.out.at' 0 _ rfl
          have q1 := Hw.out.at' 1 _ rfl
          have q2 := Hw.out.at' 2 _ rfl
          have q3 := Hw.out.at' 3 _ rfl
          have q4 := Hw.out.at' 4 _ rfl
          have f0 := Hw.out.fz 0
          have f1 := Hw.out.fz 1
          have f2 := Hw.out.fz 2
          have f3 := Hw.out.fz 3
          have f4 := Hw.out.fz 4
          go_simp
          clear q0 q1 q2 q3 q4 f0 f1 f2 f3 f4
          obtain ⟨g1, g2, g3⟩ := set5 HG.out Hw.out Hsw.out (i64 (y % 4)) (i64 (y / 4 % 2)) (i64 (y / 8 % 8192)) (i64 (y / 65536 % 16777216)) (i64 (y / 1099511627776))
          replace HG := Lib.hid g1
          replace Hw := Lib.hid g2
          replace Hv := Lib.hid (g3 _ _ Hv.out (fun e => Hne.out e.symm))
          clear g1 g2 g3
          generalize ((((wy.setCell ⟨bw, 0, none⟩ (i64 (y % 4))).setCell ⟨bw, 1, none⟩ (i64 (y / 4 % 2))).setCell ⟨bw, 2, none⟩ (i64 (y / 8 % 8192))).setCell ⟨bw, 3, none⟩ (i64 (y / 65536 % 16777216))).setCell ⟨bw, 4, none⟩ (i64 (y / 1099511627776)) = wz at HG Hv Hw ⊢
          replace HA := Lib.hid (HA0.out.gr HG.out)
          refine hK.out _ _ HA.out (fun _ => ?_)
          (try simp only [Act.put, List.setIfInBounds_toArray, List.set_cons_zero, List.set_cons_succ])
          clear hK K
          refine seqT_done ?_
          go_wp2_with fail
          go_meet
          exact ⟨bv, bw, rfl, rfl, Hv, Hw, HG⟩
        · refine runT rfl (fun K hK => ?_)
          go_simp
          have hb := (Gr.refl ww2).new (.cells #[i64 0, i64 0, i64 0, i64 0, i64 0] 52)
          have Hv : Hid (IsObj (ww2.alloc (.cells #[i64 0, i64 0, i64 0, i64 0, i64 0] 52)) ww2.heap.size [i64 0, i64 0, i64 0, i64 0, i64 0]) := IsObj.made ww2 [i64 0, i64 0, i64 0, i64 0, i64 0] 52
          have Hne : Hid (ww2.heap.size ≠ bw) := by have := Hw.out.lt; show _ ≠ _; omega
          replace Hw := Lib.hid (Hw.out.later hb.below)
          have Hsv : Hid (W.heap.size ≤ ww2.heap.size) := HG.out.below.size
          replace HA := Lib.hid (HA.out.gr hb)
          replace HG := Lib.hid (HG.out.step hb)
          clear hb
          generalize ww2.alloc (.cells #[i64 0, i64 0, i64 0, i64 0, i64 0] 52) = ww3 at HA HG Hv Hw ⊢
          generalize ww2.heap.size = bv at Hv Hsv Hne ⊢
          refine hK.out _ _ HA.out (fun _ => ?_)
          (try simp only [Act.put, List.setIfInBounds_toArray, List.set_cons_zero, List.set_cons_succ])
          clear hK K
          try clear ww2
          refine runT rfl (fun K hK => ?_)
          go_simp
          go_at_call 36
          refine (unpack_gr y _ y0 y1).mono ?_
          rintro r ww4 ⟨rfl, hb⟩
          (try go_wp2_with fail)
          replace Hv := Lib.hid (Hv.out.later hb.below)
          replace Hw := Lib.hid (Hw.out.later hb.below)
          replace HA := Lib.hid (HA.out.gr hb)
          replace HG := Lib.hid (HG.out.step hb)
          clear hb
          refine hK.out _ _ HA.out (fun _ => ?_)
          (try simp only [Act.put, List.setIfInBounds_toArray, List.set_cons_zero, List.set_cons_succ])
          clear hK K
          try clear ww3
          refine runT rfl (fun K hK => ?_)
          have q0 := Hv.out.at' 0 _ rfl
          have q1 := Hv.out.at' 1 _ rfl
          have q2 := Hv.out.at' 2 _ rfl
          have q3 := Hv.out.at' 3 _ rfl
          have q4 := Hv.out.at' 4 _ rfl
          have f0 := Hv.out.fz 0
          have f1 := Hv.out.fz 1
          have f2 := Hv.out.fz 2
          have f3 := Hv.out.fz 3
          have f4 := Hv.out.fz 4
          go_simp
          clear q0 q1 q2 q3 q4 f0 f1 f2 f3 f4
          obtain ⟨g1, g2, g3⟩ := set5 HG.out Hv.out Hsv.out (i64 (x % 4)) (i64 (x / 4 % 2)) (i64 (x / 8 % 8192)) (i64 (x / 65536 % 16777216)) (i64 (x / 1099511627776))
          replace HG := Lib.hid g1
          replace Hv := Lib.hid g2
          replace Hw := Lib.hid (g3 _ _ Hw.out Hne.out)
          clear g1 g2 g3
          generalize ((((ww4.setCell ⟨bv, 0, none⟩ (i64 (x % 4))).setCell ⟨bv, 1, none⟩ (i64 (x / 4 % 2))).setCell ⟨bv, 2, none⟩ (i64 (x / 8 % 8192))).setCell ⟨bv, 3, none⟩ (i64 (x / 65536 % 16777216))).setCell ⟨bv, 4, none⟩ (i64 (x / 1099511627776)) = wy at HG Hv Hw ⊢
          replace HA := Lib.hid (HA0.out.gr HG.out)
          refine hK.out _ _ HA.out (fun _ => ?_)
          (try simp only [Act.put, List.setIfInBounds_toArray, List.set_cons_zero, List.set_cons_succ])
          clear hK K
          refine runT rfl (fun K hK => ?_)
          have q0 := Hw.out.at' 0 _ rfl
          have q1 := Hw.out.at' 1 _ rfl
          have q2 := Hw.out.at' 2 _ rfl
          have q3 := Hw.out.at' 3 _ rfl
          have q4 := Hw.out.at' 4 _ rfl
          have f0 := Hw.out.fz 0
          have f1 := Hw.out.fz 1
          have f2 := Hw.out.fz 2
          have f3 := Hw.out.fz 3
          have f4 := Hw.out.fz 4
          go_simp
          clear q0 q1 q2 q3 q4 f0 f1 f2 f3 f4
          obtain ⟨g1, g2, g3⟩ := set5 HG.out Hw.out Hsw.out (i64 (y % 4)) (i64 (y / 4 % 2)) (i64 (y / 8 % 8192)) (i64 (y / 65536 % 16777216)) (i64 (y / 1099511627776))
          replace HG := Lib.hid g1
          replace Hw := Lib.hid g2
          replace Hv := Lib.hid (g3 _ _ Hv.out (fun e => Hne.out e.symm))
          clear g1 g2 g3
          generalize ((((wy.setCell ⟨bw, 0, none⟩ (i64 (y % 4))).setCell ⟨bw, 1, none⟩ (i64 (y / 4 % 2))).setCell ⟨bw, 2, none⟩ (i64 (y / 8 % 8192))).setCell ⟨bw, 3, none⟩ (i64 (y / 65536 % 16777216))).setCell ⟨bw, 4, none⟩ (i64 (y / 1099511627776)) = wz at HG Hv Hw ⊢
          replace HA := Lib.hid (HA0.out.gr HG.out)
          refine hK.out _ _ HA.out (fun _ => ?_)
          (try simp only [Act.put, List.setIfInBounds_toArray, List.set_cons_zero, List.set_cons_succ])
          clear hK K
          refine seqT_done ?_
          go_wp2_with fail
          go_meet
          exact ⟨bv, bw, rfl, rfl, Hv, Hw, HG⟩
      · refine runT rfl (fun K hK => ?_)
        go_simp
        have hb := (Gr.refl ww1).new (.cells #[i64 0, i64 0, i64 0, i64 0, i64 0] 52)
        have Hv : Hid (IsObj (ww1.alloc (.cells #[i64 0, i64 0, i64 0, i64 0, i64 0] 52)) ww1.heap.size [i64 0, i64 0, i64 0, i64 0, i64 0]) := IsObj.made ww1 [i64 0, i64 0, i64 0, i64 0, i64 0] 52
        have Hne : Hid (ww1.heap.size ≠ bw) := by have := Hw.out.lt; show _ ≠ _; omega
        replace Hw := Lib.hid (Hw.out.later hb.below)
        have Hsv : Hid (W.heap.size ≤ ww1.heap.size) := HG.out.below.size
        replace HA := Lib.hid (HA.out.gr hb)
        replace HG := Lib.hid (HG.out.step hb)
        clear hb
        generalize ww1.alloc (.cells #[i64 0, i64 0, i64 0, i64 0, i64 0] 52) = ww2 at HA HG Hv Hw ⊢
        generalize ww1.heap.size = bv at Hv Hsv Hne ⊢
        refine hK.out _ _ HA.out (fun _ => ?_)
        (try simp only [Act.put, List.setIfInBounds_toArray, List.set_cons_zero, List.set_cons_succ])
        clear hK K
        try clear ww1
        refine runT rfl (fun K hK => ?_)
        go_simp
        go_at_call 36
        refine (unpack_gr x _ x0 x1).mono ?_
        rintro r ww3 ⟨rfl, hb⟩
        (try go_wp2_with fail)
        replace Hv := Lib.hid (Hv.out.later hb.below)
        replace Hw := Lib.hid (Hw.out.later hb.below)
        replace HA := Lib.hid (HA.out.gr hb)
        replace HG := Lib.hid (HG.out.step hb)
        clear hb
        refine hK.out _ _ HA.out (fun _ => ?_)
        (try simp only [Act.put, List.setIfInBounds_toArray, List.set_cons_zero, List.set_cons_succ])
        clear hK K
        try clear ww2
        refine runT rfl (fun K hK => ?_)
        go_simp
        go_at_call 36
        refine (unpack_gr y _ y0 y1).mono ?_
        rintro r ww4 ⟨rfl, hb⟩
        (try go_wp2_with fail)
        replace Hv := Lib.hid (Hv.out.later hb.below)
        replace Hw := Lib.hid (Hw.out.later hb.below)
        replace HA := Lib.hid (HA.out.gr hb)
        replace HG := Lib.hid (HG.out.step hb)
        clear hb
        refine hK.out _ _ HA.out (fun _ => ?_)
        (try simp only [Act.put, List.setIfInBounds_toArray, List.set_cons_zero, List.set_cons_succ])
        clear hK K
        try clear ww3
        refine runT rfl (fun K hK => ?_)
        have q0 := Hv.out.at' 0 _ rfl
        have q1 := Hv.out.at' 1 _ rfl
        have q2 := Hv.out.at' 2 _ rfl
        have q3 := Hv.out.at' 3 _ rfl
        have q4 := Hv.out.at' 4 _ rfl
        have f0 := Hv.out.fz 0
        have f1 := Hv.out.fz 1
        have f2 := Hv.out.fz 2
        have f3 := Hv.out.fz 3
        have f4 := Hv.out.fz 4
        go_simp
        clear q0 q1 q2 q3 q4 f0 f1 f2 f3 f4
        obtain ⟨g1, g2, g3⟩ := set5 HG.out Hv.out Hsv.out (i64 (x % 4)) (i64 (x / 4 % 2)) (i64 (x / 8 % 8192)) (i64 (x / 65536 % 16777216)) (i64 (x / 1099511627776))
        replace HG := Lib.hid g1
        replace Hv := Lib.hid g2
        replace Hw := Lib.hid (g3 _ _ Hw.out Hne.out)
        clear g1 g2 g3
        generalize ((((ww4.setCell ⟨bv, 0, none⟩ (i64 (x % 4))).setCell ⟨bv, 1, none⟩ (i64 (x / 4 % 2))).setCell ⟨bv, 2, none⟩ (i64 (x / 8 % 8192))).setCell ⟨bv, 3, none⟩ (i64 (x / 65536 % 16777216))).setCell ⟨bv, 4, none⟩ (i64 (x / 1099511627776)) = wy at HG Hv Hw ⊢
        replace HA := Lib.hid (HA0.out.gr HG.out)
        refine hK.out _ _ HA.out (fun _ => ?_)
        (try simp only [Act.put, List.setIfInBounds_toArray, List.set_cons_zero, List.set_cons_succ])
        clear hK K
        refine runT rfl (fun K hK => ?_)
        have q0 := Hw.out.at' 0 _ rfl
        have q1 := Hw.out.at' 1 _ rfl
        have q2 := Hw.out.at' 2 _ rfl
        have q3 := Hw.out.at' 3 _ rfl
        have q4 := Hw.out.at' 4 _ rfl
        have f0 := Hw.out.fz 0
        have f1 := Hw.out.fz 1
        have f2 := Hw.out.fz 2
        have f3 := Hw.out.fz 3
        have f4 := Hw.out.fz 4
        go_simp
        clear q0 q1 q2 q3 q4 f0 f1 f2 f3 f4
        obtain ⟨g1, g2, g3⟩ := set5 HG.out Hw.out Hsw.out (i64 (y % 4)) (i64 (y / 4 % 2)) (i64 (y / 8 % 8192)) (i64 (y / 65536 % 16777216)) (i64 (y / 1099511627776))
        replace HG := Lib.hid g1
        replace Hw := Lib.hid g2
        replace Hv := Lib.hid (g3 _ _ Hv.out (fun e => Hne.out e.symm))
        clear g1 g2 g3
        generalize ((((wy.setCell ⟨bw, 0, none⟩ (i64 (y % 4))).setCell ⟨bw, 1, none⟩ (i64 (y / 4 % 2))).setCell ⟨bw, 2, none⟩ (i64 (y / 8 % 8192))).setCell ⟨bw, 3, none⟩ (i64 (y / 65536 % 16777216))).setCell ⟨bw, 4, none⟩ (i64 (y / 1099511627776)) = wz at HG Hv Hw ⊢
        replace HA := Lib.hid (HA0.out.gr HG.out)
        refine hK.out _ _ HA.out (fun _ => ?_)
        (try simp only [Act.put, List.setIfInBounds_toArray, List.set_cons_zero, List.set_cons_succ])
        clear hK K
        refine seqT_done ?_
        go_wp2_with fail
        go_meet
        exact ⟨bv, bw, rfl, rfl, Hv, Hw, HG⟩
  case rest =>
    obtain ⟨bv, bw, rfl, rfl, Hv, Hw, HG⟩ := hcut
    clear a0 a1 a2
    have v1 := Hv.out.at' 1 _ rfl
    have v3 := Hv.out.at' 3 _ rfl
    have v4 := Hv.out.at' 4 _ rfl
    have w1 := Hw.out.at' 1 _ rfl
    have w3 := Hw.out.at' 3 _ rfl
    have w4 := Hw.out.at' 4 _ rfl
    obtain ⟨L, hL⟩ : ∃ L : Int, laterI x y i j = L := ⟨_, rfl⟩
    have hbd := laterI_bd x y i j
    rw [hL] at hbd
    have HL := Lib.hid hL
    clear hL
    go_wp2_with fail
    refine (compare_gr _ _ _ _ _).mono ?_
    rintro r wr ⟨rfl, hb1⟩
    replace v1 := hb1.cell v1
    replace w1 := hb1.cell w1
    clear v3 v4 w3 w4
    replace HG := Lib.hid (HG.out.step hb1)
    clear hb1 Hv Hw
    go_wp2_with fail
    refine (cmpint_any _ _ _).mono ?_
    rintro r wr2 ⟨rfl, rfl⟩
    go_wp2_with fail
    refine (or_same (cmpS (x / 65536 % 16777216) (x / 1099511627776) (y / 65536 % 16777216) (y / 1099511627776)) (cmpI i j) _ _ (by go_simp) (by go_simp)).mono ?_
    rintro r wr2 ⟨rfl, rfl⟩
    replace v1 := cell_new v1 (.cells #[i64 (cmpS (x / 65536 % 16777216) (x / 1099511627776) (y / 65536 % 16777216) (y / 1099511627776)), i64 (cmpI i j)] 3)
    replace w1 := cell_new w1 (.cells #[i64 (cmpS (x / 65536 % 16777216) (x / 1099511627776) (y / 65536 % 16777216) (y / 1099511627776)), i64 (cmpI i j)] 3)
    replace HG := Lib.hid (HG.out.new (.cells #[i64 (cmpS (x / 65536 % 16777216) (x / 1099511627776) (y / 65536 % 16777216) (y / 1099511627776)), i64 (cmpI i j)] 3))
    generalize wr.alloc (.cells #[i64 (cmpS (x / 65536 % 16777216) (x / 1099511627776) (y / 65536 % 16777216) (y / 1099511627776)), i64 (cmpI i j)] 3) = wr3 at v1 w1 HG ⊢
    rw [show orI (cmpS (x / 65536 % 16777216) (x / 1099511627776) (y / 65536 % 16777216) (y / 1099511627776)) (cmpI i j) = L from HL.out]
    by_cases he : x / 4 % 2 = 0
    · have he' : (x / 4 % 2 == 0) = true := by simp [he]
      have HE := Lib.hid he
      clear he
      go_wp2_with fail
      refine (cmpend_any _ _ _).mono ?_
      rintro r wr2 ⟨rfl, rfl⟩
      go_wp2_with fail
      refine (or_same (cmpI (x / 4 % 2) (y / 4 % 2)) (-L) _ _ (by go_simp) (by go_simp)).mono ?_
      rintro r wr2 ⟨rfl, rfl⟩
      go_wp2_with fail
      go_ret
      exact ⟨by unfold rightI; rw [if_pos HE.out, HL.out]; rfl, HG.out.new _⟩
    · have he' : (x / 4 % 2 == 0) = false := by simp [he]
      have HE := Lib.hid he
      clear he
      go_wp2_with fail
      refine (cmpend_any _ _ _).mono ?_
      rintro r wr2 ⟨rfl, rfl⟩
      go_wp2_with fail
      refine (or_same (cmpI (x / 4 % 2) (y / 4 % 2)) L _ _ (by go_simp) (by go_simp)).mono ?_
      rintro r wr2 ⟨rfl, rfl⟩
      go_wp2_with fail
      go_ret
      exact ⟨by unfold rightI; rw [if_neg HE.out, HL.out]; rfl, HG.out.new _⟩
end Go.Proofs.Yticphioeipbnmaa
