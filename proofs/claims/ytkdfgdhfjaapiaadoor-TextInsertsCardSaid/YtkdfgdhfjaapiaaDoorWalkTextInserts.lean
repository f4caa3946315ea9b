/-
  TextInserts: the one text in the other, or why not: the walk. No condition.
-/
import Derived.Test.YtkdfgdhfjaapiaaDoorTextHead
import Derived.Test.YtkdfgdhfjaapiaaDoorRegion
namespace Go.Proofs.YtkdfgdhfjaapiaaDoor
open Go.RowKit
set_option linter.unusedVariables false

set_option maxHeartbeats 4000000 in
theorem walk_TextInserts (a0 : ByteArray) (a1 : ByteArray) (a2 : Int) (w : World) (w0 : a0.size ≤ maxLen) (w1 : a1.size ≤ maxLen) (w2 : (Lit.int .i64 a2).wf = true) (hT : Tabs w) :
    Calls Tryd.prog 3 #[.string a0, .string a1, .int .i64 a2] w fun e w' => e = .returned (.bool true) ∧ Below w.heap.size w w' := by
  have cH := fun (W : World) (hb : Below w.heap.size w W) => head20_any W (hT.later hb)
  have hb := Below.refl w.heap.size w
  by_cases h0 : 300 < a0.size
  · have h0' : (300 : Int) < (a0.size : Int) := by omega
    go_enter Tryd.func3, Tryd.ntmps3
    go_wp2_with (first
      | (go_at_call 10; with_reducible refine (cH _ hb).mono ?_; rintro e w' ⟨rfl, hb'⟩; replace hb := below_step hb hb'; clear hb'))
    go_ret
    exact ⟨rfl, hb⟩
  have h0' : ¬ ((300 : Int) < (a0.size : Int)) := by omega
  by_cases h1 : 300 < a1.size
  · have h1' : (300 : Int) < (a1.size : Int) := by omega
    go_enter Tryd.func3, Tryd.ntmps3
    go_wp2_with (first
      | (go_at_call 10; with_reducible refine (cH _ hb).mono ?_; rintro e w' ⟨rfl, hb'⟩; replace hb := below_step hb hb'; clear hb'))
    go_ret
    exact ⟨rfl, hb⟩
  have h1' : ¬ ((300 : Int) < (a1.size : Int)) := by omega
  have cI := fun (W : World) (hb : Below w.heap.size w W) => insert_any a0 a1 a2 W (by omega) (by omega) (hT.later hb)
  have cR0 := fun (W : World) (hb : Below w.heap.size w W) => right_any a0 W (by omega) (hT.later hb)
  have cR1 := fun (W : World) (hb : Below w.heap.size w W) => right_any a1 W (by omega) (hT.later hb)
  clear w0 w1
  cases hA : sg a0.data.toList with
  | none =>
    simp only [hA, Option.isSome_none] at cR0
    obtain ⟨LA, rA, lA, eA, zA, nA⟩ := sg_none hA
    have cS0 := fun (W : World) (hb : Below w.heap.size w W) => signs_none lA a0 eA zA nA (by omega) W (hT.later hb)
    cases hB : sg a1.data.toList with
    | none =>
      simp only [hB, Option.isSome_none] at cR1
      obtain ⟨LB, rB, lB, eB, zB, nB⟩ := sg_none hB
      have cS1 := fun (W : World) (hb : Below w.heap.size w W) => signs_none lB a1 eB zB nB (by omega) W (hT.later hb)
      have eI : insS a0.data.toList a2 a1.data.toList = ([], 3) := by unfold insS; rw [hA, hB]
      simp only [eI] at cI
      clear eI hA hB
      go_enter Tryd.func3, Tryd.ntmps3
      go_wp2_with (first
        | (go_at_call 10; with_reducible refine (cH _ hb).mono ?_; rintro e w' ⟨rfl, hb'⟩; replace hb := below_step hb hb'; clear hb')
        | (go_at_call 11; with_reducible refine (cI _ hb).mono ?_; rintro e w' ⟨rfl, hb'⟩; replace hb := below_step hb hb'; clear hb')
        | (go_at_call 12; with_reducible refine (cS0 _ hb).mono ?_; rintro e w' ⟨rfl, hb'⟩; replace hb := below_step hb hb'; clear hb')
        | (go_at_call 12; with_reducible refine (cS1 _ hb).mono ?_; rintro e w' ⟨rfl, hb'⟩; replace hb := below_step hb hb'; clear hb')
        | (go_at_call 13; with_reducible refine (cR0 _ hb).mono ?_; rintro e w' ⟨rfl, hb'⟩; replace hb := below_step hb hb'; clear hb')
        | (go_at_call 13; with_reducible refine (cR1 _ hb).mono ?_; rintro e w' ⟨rfl, hb'⟩; replace hb := below_step hb hb'; clear hb'))
      go_ret
      exact ⟨rfl, hb⟩
    | some B =>
      simp only [hB, Option.isSome_some] at cR1
      obtain ⟨lB, eB⟩ := (sg_iff _ _).1 hB
      have cS1 := fun (W : World) (hb : Below w.heap.size w W) => signs_some lB a1 eB.symm (by omega) W (hT.later hb)
      have eI : insS a0.data.toList a2 a1.data.toList = ([], 3) := by unfold insS; rw [hA, hB]
      simp only [eI] at cI
      clear eI hA hB
      go_enter Tryd.func3, Tryd.ntmps3
      go_wp2_with (first
        | (go_at_call 10; with_reducible refine (cH _ hb).mono ?_; rintro e w' ⟨rfl, hb'⟩; replace hb := below_step hb hb'; clear hb')
        | (go_at_call 11; with_reducible refine (cI _ hb).mono ?_; rintro e w' ⟨rfl, hb'⟩; replace hb := below_step hb hb'; clear hb')
        | (go_at_call 12; with_reducible refine (cS0 _ hb).mono ?_; rintro e w' ⟨rfl, hb'⟩; replace hb := below_step hb hb'; clear hb')
        | (go_at_call 12; with_reducible refine (cS1 _ hb).mono ?_; rintro e w' ⟨A1, c1, rfl, hR1, hb'⟩; replace hb := below_step hb hb'; clear hb'; clear hR1)
        | (go_at_call 13; with_reducible refine (cR0 _ hb).mono ?_; rintro e w' ⟨rfl, hb'⟩; replace hb := below_step hb hb'; clear hb')
        | (go_at_call 13; with_reducible refine (cR1 _ hb).mono ?_; rintro e w' ⟨rfl, hb'⟩; replace hb := below_step hb hb'; clear hb'))
      go_ret
      exact ⟨rfl, hb⟩
  | some A =>
    simp only [hA, Option.isSome_some] at cR0
    obtain ⟨lA, eA⟩ := (sg_iff _ _).1 hA
    have cS0 := fun (W : World) (hb : Below w.heap.size w W) => signs_some lA a0 eA.symm (by omega) W (hT.later hb)
    cases hB : sg a1.data.toList with
    | none =>
      simp only [hB, Option.isSome_none] at cR1
      obtain ⟨LB, rB, lB, eB, zB, nB⟩ := sg_none hB
      have cS1 := fun (W : World) (hb : Below w.heap.size w W) => signs_none lB a1 eB zB nB (by omega) W (hT.later hb)
      have eI : insS a0.data.toList a2 a1.data.toList = ([], 3) := by unfold insS; rw [hA, hB]
      simp only [eI] at cI
      clear eI hA hB
      go_enter Tryd.func3, Tryd.ntmps3
      go_wp2_with (first
        | (go_at_call 10; with_reducible refine (cH _ hb).mono ?_; rintro e w' ⟨rfl, hb'⟩; replace hb := below_step hb hb'; clear hb')
        | (go_at_call 11; with_reducible refine (cI _ hb).mono ?_; rintro e w' ⟨rfl, hb'⟩; replace hb := below_step hb hb'; clear hb')
        | (go_at_call 12; with_reducible refine (cS0 _ hb).mono ?_; rintro e w' ⟨A0, c0, rfl, hR0, hb'⟩; replace hb := below_step hb hb'; clear hb'; have HR0 := Lib.hid hR0; clear hR0)
        | (go_at_call 12; with_reducible refine (cS1 _ hb).mono ?_; rintro e w' ⟨rfl, hb'⟩; replace hb := below_step hb hb'; clear hb')
        | (go_at_call 13; with_reducible refine (cR0 _ hb).mono ?_; rintro e w' ⟨rfl, hb'⟩; replace hb := below_step hb hb'; clear hb')
        | (go_at_call 13; with_reducible refine (cR1 _ hb).mono ?_; rintro e w' ⟨rfl, hb'⟩; replace hb := below_step hb hb'; clear hb'))
      go_ret
      exact ⟨rfl, hb⟩
    | some B =>
      simp only [hB, Option.isSome_some] at cR1
      obtain ⟨lB, eB⟩ := (sg_iff _ _).1 hB
      have cS1 := fun (W : World) (hb : Below w.heap.size w W) => signs_some lB a1 eB.symm (by omega) W (hT.later hb)
      have hAn : A.length ≤ 300 := by have := lA.le; rw [eA, size_list] at this; omega
      have hBn : B.length ≤ 300 := by have := lB.le; rw [eB, size_list] at this; omega
      have hFA : A.flatten.length ≤ 300 := by rw [eA, size_list]; omega
      have hFB : B.flatten.length ≤ 300 := by rw [eB, size_list]; omega
      by_cases hk0 : a2 < 0
      · have eI : insS a0.data.toList a2 a1.data.toList = ([], 4) := by
          unfold insS; rw [hA, hB]
          show (if _ then _ else _) = _
          rw [if_pos (Or.inl hk0)]
        simp only [eI] at cI
        clear eI hA hB
        go_enter Tryd.func3, Tryd.ntmps3
        go_wp2_with (first
          | (go_at_call 10; with_reducible refine (cH _ hb).mono ?_; rintro e w' ⟨rfl, hb'⟩; replace hb := below_step hb hb'; clear hb')
          | (go_at_call 11; with_reducible refine (cI _ hb).mono ?_; rintro e w' ⟨rfl, hb'⟩; replace hb := below_step hb hb'; clear hb')
          | (go_at_call 12; with_reducible refine (cS0 _ hb).mono ?_; rintro e w' ⟨A0, c0, rfl, hR0, hb'⟩; replace hb := below_step hb hb'; clear hb'; have HR0 := Lib.hid hR0; clear hR0)
          | (go_at_call 12; with_reducible refine (cS1 _ hb).mono ?_; rintro e w' ⟨A1, c1, rfl, hR1, hb'⟩; replace hb := below_step hb hb'; clear hb'; clear hR1))
        go_ret
        exact ⟨rfl, hb⟩
      by_cases hk1 : (A.length : Int) < a2
      · have eI : insS a0.data.toList a2 a1.data.toList = ([], 4) := by
          unfold insS; rw [hA, hB]
          show (if _ then _ else _) = _
          rw [if_pos (Or.inr hk1)]
        simp only [eI] at cI
        clear eI hA hB
        go_enter Tryd.func3, Tryd.ntmps3
        go_wp2_with (first
          | (go_at_call 10; with_reducible refine (cH _ hb).mono ?_; rintro e w' ⟨rfl, hb'⟩; replace hb := below_step hb hb'; clear hb')
          | (go_at_call 11; with_reducible refine (cI _ hb).mono ?_; rintro e w' ⟨rfl, hb'⟩; replace hb := below_step hb hb'; clear hb')
          | (go_at_call 12; with_reducible refine (cS0 _ hb).mono ?_; rintro e w' ⟨A0, c0, rfl, hR0, hb'⟩; replace hb := below_step hb hb'; clear hb'; have HR0 := Lib.hid hR0; clear hR0)
          | (go_at_call 12; with_reducible refine (cS1 _ hb).mono ?_; rintro e w' ⟨A1, c1, rfl, hR1, hb'⟩; replace hb := below_step hb hb'; clear hb'; clear hR1))
        go_ret
        exact ⟨rfl, hb⟩
      obtain ⟨k, rfl⟩ : ∃ k : Nat, a2 = k := ⟨a2.toNat, by omega⟩
      have hkA : k ≤ A.length := by omega
      have eI : insS a0.data.toList k a1.data.toList = ((A.take k ++ (B ++ A.drop k)).flatten, 0) := by rw [← eA, ← eB]; exact insS_ok lA lB hkA (by omega)
      simp only [eI] at cI
      clear eI hA hB
      obtain ⟨j1, hj1⟩ : ∃ j1 : ByteArray, j1.data.toList = (A.take k).flatten := ⟨⟨(A.take k).flatten.toArray⟩, by simp⟩
      obtain ⟨j2, hj2⟩ : ∃ j2 : ByteArray, j2.data.toList = (A.drop k).flatten := ⟨⟨(A.drop k).flatten.toArray⟩, by simp⟩
      obtain ⟨G, hG⟩ : ∃ G : ByteArray, j1 ++ a1 ++ j2 = G := ⟨_, rfl⟩
      have hGl : G.data.toList = (A.take k ++ (B ++ A.drop k)).flatten := by rw [← hG, app_list, app_list, hj1, hj2, ← eB]; simp only [List.flatten_append, List.append_assoc]
      have hX : str (A.take k ++ (B ++ A.drop k)).flatten = .string G := (str_eq hGl).symm
      have hfl : A.flatten = (A.take k).flatten ++ (A.drop k).flatten := by rw [← List.flatten_append, List.take_append_drop]
      have hfl2 : A.flatten.length = (A.take k).flatten.length + (A.drop k).flatten.length := by rw [hfl, List.length_append]
      have hs1 : j1.size ≤ 300 := by rw [← size_list, hj1]; omega
      have hs2 : j2.size ≤ 300 := by rw [← size_list, hj2]; omega
      have hsg : G.size ≤ 900 := by rw [← size_list, hGl]; simp only [List.flatten_append, List.length_append]; omega
      simp only [hX] at cI
      have cL := fun (W : World) => len_any (ins_signs lA lB k) G hGl (by omega) W
      have hlen : (A.take k ++ (B ++ A.drop k)).length = A.length + B.length := by simp only [List.length_append, List.length_take, List.length_drop]; omega
      simp only [hlen, Int.natCast_add] at cL
      have cJ1 := fun (W : World) (a : Option Addr) (c : Nat) (h : IsStrs W a (A.take k)) => join_any a k c (A.take k) (by rw [List.length_take]; omega) W h (by omega) (by rw [List.length_take]; omega)
      have cJ2 := fun (W : World) (a : Option Addr) (c : Nat) (h : IsStrs W a (A.drop k)) => join_any a (A.length - k) c (A.drop k) (by rw [List.length_drop]) W h (by omega) (by rw [List.length_drop]; omega)
      simp only [← str_eq hj1] at cJ1
      simp only [← str_eq hj2] at cJ2
      have hcat1 : ∀ wx : World, (Op.stringOp .add j1 a1).run Tryd.prog wx = .ok (.string (j1 ++ a1)) wx := fun wx => run_string_add wx j1 a1 (by omega) (by omega)
      have hcat2 : ∀ wx : World, (Op.stringOp .add (j1 ++ a1) j2).run Tryd.prog wx = .ok (.string G) wx := fun wx => by rw [← hG]; exact run_string_add wx (j1 ++ a1) j2 (by rw [← size_list (j1 ++ a1), app_list, List.length_append, size_list, size_list]; omega) (by omega)
      have hwr : IntKind.i64.wrap ((A.length : Int) + (B.length : Int)) = (A.length : Int) + (B.length : Int) := by rw [IntKind.wrap_i64]; omega
      clear hX hGl hfl hfl2 hj1 hj2 hlen hG
      go_enter Tryd.func3, Tryd.ntmps3
      go_wp2_with (first
        | (go_at_call 10; with_reducible refine (cH _ hb).mono ?_; rintro e w' ⟨rfl, hb'⟩; replace hb := below_step hb hb'; clear hb')
        | (go_at_call 11; with_reducible refine (cI _ hb).mono ?_; rintro e w' ⟨rfl, hb'⟩; replace hb := below_step hb hb'; clear hb')
        | (go_at_call 12; with_reducible refine (cS0 _ hb).mono ?_; rintro e w' ⟨A0, c0, rfl, hR0, hb'⟩; replace hb := below_step hb hb'; clear hb'; have HR0 := Lib.hid hR0; clear hR0)
        | (go_at_call 12; with_reducible refine (cS1 _ hb).mono ?_; rintro e w' ⟨A1, c1, rfl, hR1, hb'⟩; replace hb := below_step hb hb'; have HR1 := Lib.hid (HR0.out.later hb'); clear hb' hR1 HR0))
      have hc0 : (k : Int) ≤ (c0 : Int) := by have := HR1.out.le; omega
      have hc1 : (k : Int) ≤ (A.length : Int) := by omega
      by_cases hck : c0 = k
      · have hck' := hck.symm
        subst hck'
        refine wp_region_seq ((0, true) :: (1, true) :: (2, true) :: (3, true) :: (4, true) :: (5, true) :: (6, true) :: (8, true) :: (10, true) :: (11, true) :: (12, true) :: (7, false) :: (9, true) :: (13, false) :: (14, true) :: (15, true) :: (16, true) :: (17, true) :: (18, true) :: (20, true) :: (21, true) :: (22, true) :: (23, true) :: (24, true) :: (19, false) :: (25, true) :: (26, true) :: (27, true) :: []) (by kernel_rfl) (by kernel_rfl) (by kernel_rfl) (by decide) (fun _ _ _ _ _ h => h) (fun hHeld => ?_)
        repeat (first
          | (refine seq_take (v := ?_) rfl ?_ ?_ ?_; rotate_left 1; rfl; (focus (intro wS hSw; have hk := below_rule hSw; go_simp; first | done | with_reducible rfl)); (try simp only [Act.put, List.setIfInBounds_toArray, List.set_cons_zero, List.set_cons_succ]))
          | (refine seq_skip rfl ?_ ?_; rfl; (try simp only [Act.put, List.setIfInBounds_toArray, List.set_cons_zero, List.set_cons_succ]))
          | (refine seq_run rfl (fun K hK => ?_); go_simp; (try (first | (go_at_call 14; (with_reducible refine (cJ1 _ _ _ ((HR1.out.is.take k).later hHeld)).mono ?_); rintro e w' ⟨rfl, hb'⟩) | (go_at_call 14; (with_reducible refine (cJ2 _ _ _ ((HR1.out.drop_eq rfl).later hHeld)).mono ?_); rintro e w' ⟨rfl, hb'⟩) | (go_at_call 15; refine (cL _).mono ?_; rintro e w' ⟨rfl, hb'⟩))); (try go_wp2_with fail); refine hK.out _ _ ?_ ?_; (focus (first | exact below_step hHeld hb' | exact below_new hHeld _ | exact hHeld)); (try clear hb'); clear hHeld hK K; intro hHeld; (try simp only [Act.put, List.setIfInBounds_toArray, List.set_cons_zero, List.set_cons_succ])))
        first | refine seq_done ?_ | skip
        go_wp2_with fail
        go_ret
        exact ⟨rfl, below_step hb hHeld⟩
      · skip
        refine wp_region_seq ((0, true) :: (1, true) :: (2, true) :: (3, true) :: (4, true) :: (5, true) :: (6, true) :: (8, true) :: (10, true) :: (11, true) :: (12, true) :: (7, false) :: (9, true) :: (13, false) :: (14, true) :: (15, true) :: (16, true) :: (17, true) :: (18, true) :: (20, true) :: (21, true) :: (22, true) :: (23, true) :: (24, true) :: (19, false) :: (25, true) :: (26, true) :: (27, true) :: []) (by kernel_rfl) (by kernel_rfl) (by kernel_rfl) (by decide) (fun _ _ _ _ _ h => h) (fun hHeld => ?_)
        repeat (first
          | (refine seq_take (v := ?_) rfl ?_ ?_ ?_; rotate_left 1; rfl; (focus (intro wS hSw; have hk := below_rule hSw; go_simp; first | done | with_reducible rfl)); (try simp only [Act.put, List.setIfInBounds_toArray, List.set_cons_zero, List.set_cons_succ]))
          | (refine seq_skip rfl ?_ ?_; rfl; (try simp only [Act.put, List.setIfInBounds_toArray, List.set_cons_zero, List.set_cons_succ]))
          | (refine seq_run rfl (fun K hK => ?_); go_simp; (try (first | (go_at_call 14; (with_reducible refine (cJ1 _ _ _ ((HR1.out.is.take k).later hHeld)).mono ?_); rintro e w' ⟨rfl, hb'⟩) | (go_at_call 14; (with_reducible refine (cJ2 _ _ _ ((HR1.out.drop_ne hck).later hHeld)).mono ?_); rintro e w' ⟨rfl, hb'⟩) | (go_at_call 15; refine (cL _).mono ?_; rintro e w' ⟨rfl, hb'⟩))); (try go_wp2_with fail); refine hK.out _ _ ?_ ?_; (focus (first | exact below_step hHeld hb' | exact below_new hHeld _ | exact hHeld)); (try clear hb'); clear hHeld hK K; intro hHeld; (try simp only [Act.put, List.setIfInBounds_toArray, List.set_cons_zero, List.set_cons_succ])))
        first | refine seq_done ?_ | skip
        go_wp2_with fail
        go_ret
        exact ⟨rfl, below_step hb hHeld⟩
end Go.Proofs.YtkdfgdhfjaapiaaDoor
