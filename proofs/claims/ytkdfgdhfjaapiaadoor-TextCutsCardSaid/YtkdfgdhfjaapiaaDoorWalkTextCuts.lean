/-
  TextCuts: what is left, and what is taken out, or why not: the walk. No condition.
-/
import Derived.Test.YtkdfgdhfjaapiaaDoorTextHead
import Derived.Test.YtkdfgdhfjaapiaaDoorRegion
namespace Go.Proofs.YtkdfgdhfjaapiaaDoor
open Go.RowKit
set_option linter.unusedVariables false

theorem Strs.mid_eq {w : World} {a : Option Addr} {c : Nat} {M : List Bs} (h : Strs w a c M) {k : Nat} (e : c = k) (m : Nat) : IsStrs w a ((M.drop k).take m) := (h.drop_eq e).take m
theorem Strs.mid_ne {w : World} {a : Option Addr} {c : Nat} {M : List Bs} (h : Strs w a c M) {k : Nat} (e : ¬ c = k) (m : Nat) : IsStrs w (a.map (·.add k)) ((M.drop k).take m) := (h.drop_ne e).take m

set_option maxHeartbeats 4000000 in
theorem walk_TextCuts (a0 : ByteArray) (a1 : Int) (a2 : Int) (w : World) (w0 : a0.size ≤ maxLen) (w1 : (Lit.int .i64 a1).wf = true) (w2 : (Lit.int .i64 a2).wf = true) (hT : Tabs w) :
    Calls Tryd.prog 4 #[.string a0, .int .i64 a1, .int .i64 a2] w fun e w' => e = .returned (.bool true) ∧ Below w.heap.size w w' := by
  have cH := fun (W : World) (hb : Below w.heap.size w W) => head20_any W (hT.later hb)
  have hb := Below.refl w.heap.size w
  by_cases h0 : 300 < a0.size
  · have h0' : (300 : Int) < (a0.size : Int) := by omega
    go_enter Tryd.func4, Tryd.ntmps4
    go_wp2_with (first
      | (go_at_call 10; with_reducible refine (cH _ hb).mono ?_; rintro e w' ⟨rfl, hb'⟩; replace hb := below_step hb hb'; clear hb'))
    go_ret
    exact ⟨rfl, hb⟩
  have h0' : ¬ ((300 : Int) < (a0.size : Int)) := by omega
  have ha1 : a1 ≤ 9223372036854775807 := by simp [Lit.wf, IntKind.min, IntKind.max, IntKind.signed, IntKind.bits] at w1; omega
  have cC := fun (W : World) (hb : Below w.heap.size w W) => cut_any a0 a1 a2 W (by omega) ha1 (hT.later hb)
  clear w0 w1 w2
  cases hA : sg a0.data.toList with
  | none =>
    obtain ⟨LA, rA, lA, eA, zA, nA⟩ := sg_none hA
    have cS0 := fun (W : World) (hb : Below w.heap.size w W) => signs_none lA a0 eA zA nA (by omega) W (hT.later hb)
    have eC : cutS a0.data.toList a1 a2 = ([], [], 3) := by unfold cutS; rw [hA]
    simp only [eC] at cC
    clear eC hA eA
    go_enter Tryd.func4, Tryd.ntmps4
    go_wp2_with (first
      | (go_at_call 10; with_reducible refine (cH _ hb).mono ?_; rintro e w' ⟨rfl, hb'⟩; replace hb := below_step hb hb'; clear hb')
      | (go_at_call 16; with_reducible refine (cC _ hb).mono ?_; rintro e w' ⟨rfl, hb'⟩; replace hb := below_step hb hb'; clear hb')
      | (go_at_call 12; with_reducible refine (cS0 _ hb).mono ?_; rintro e w' ⟨rfl, hb'⟩; replace hb := below_step hb hb'; clear hb'))
    go_ret
    exact ⟨rfl, hb⟩
  | some A =>
    obtain ⟨lA, eA⟩ := (sg_iff _ _).1 hA
    have cS0 := fun (W : World) (hb : Below w.heap.size w W) => signs_some lA a0 eA.symm (by omega) W (hT.later hb)
    have hAn : A.length ≤ 300 := by have := lA.le; rw [eA, size_list] at this; omega
    have hFA : A.flatten.length ≤ 300 := by rw [eA, size_list]; omega
    by_cases hk0 : a1 < 0
    · have eC : cutS a0.data.toList a1 a2 = ([], [], 4) := by
        unfold cutS; rw [hA]
        show (if _ then _ else _) = _
        rw [if_pos (Or.inl hk0)]
      simp only [eC] at cC
      clear eC hA
      go_enter Tryd.func4, Tryd.ntmps4
      go_wp2_with (first
        | (go_at_call 10; with_reducible refine (cH _ hb).mono ?_; rintro e w' ⟨rfl, hb'⟩; replace hb := below_step hb hb'; clear hb')
        | (go_at_call 16; with_reducible refine (cC _ hb).mono ?_; rintro e w' ⟨rfl, hb'⟩; replace hb := below_step hb hb'; clear hb')
        | (go_at_call 12; with_reducible refine (cS0 _ hb).mono ?_; rintro e w' ⟨A0, c0, rfl, hR0, hb'⟩; replace hb := below_step hb hb'; clear hb'; have HR0 := Lib.hid hR0; clear hR0))
      go_ret
      exact ⟨rfl, hb⟩
    by_cases hn0 : a2 < 0
    · have eC : cutS a0.data.toList a1 a2 = ([], [], 4) := by
        unfold cutS; rw [hA]
        show (if _ then _ else _) = _
        rw [if_pos (Or.inr (Or.inl hn0))]
      simp only [eC] at cC
      clear eC hA
      go_enter Tryd.func4, Tryd.ntmps4
      go_wp2_with (first
        | (go_at_call 10; with_reducible refine (cH _ hb).mono ?_; rintro e w' ⟨rfl, hb'⟩; replace hb := below_step hb hb'; clear hb')
        | (go_at_call 16; with_reducible refine (cC _ hb).mono ?_; rintro e w' ⟨rfl, hb'⟩; replace hb := below_step hb hb'; clear hb')
        | (go_at_call 12; with_reducible refine (cS0 _ hb).mono ?_; rintro e w' ⟨A0, c0, rfl, hR0, hb'⟩; replace hb := below_step hb hb'; clear hb'; have HR0 := Lib.hid hR0; clear hR0))
      go_ret
      exact ⟨rfl, hb⟩
    by_cases hk1 : (A.length : Int) < a1
    · have eC : cutS a0.data.toList a1 a2 = ([], [], 4) := by
        unfold cutS; rw [hA]
        show (if _ then _ else _) = _
        rw [if_pos (Or.inr (Or.inr (Or.inl hk1)))]
      simp only [eC] at cC
      clear eC hA
      go_enter Tryd.func4, Tryd.ntmps4
      go_wp2_with (first
        | (go_at_call 10; with_reducible refine (cH _ hb).mono ?_; rintro e w' ⟨rfl, hb'⟩; replace hb := below_step hb hb'; clear hb')
        | (go_at_call 16; with_reducible refine (cC _ hb).mono ?_; rintro e w' ⟨rfl, hb'⟩; replace hb := below_step hb hb'; clear hb')
        | (go_at_call 12; with_reducible refine (cS0 _ hb).mono ?_; rintro e w' ⟨A0, c0, rfl, hR0, hb'⟩; replace hb := below_step hb hb'; clear hb'; have HR0 := Lib.hid hR0; clear hR0))
      go_ret
      exact ⟨rfl, hb⟩
    by_cases hn1 : (A.length : Int) - a1 < a2
    · have eC : cutS a0.data.toList a1 a2 = ([], [], 4) := by
        unfold cutS; rw [hA]
        show (if _ then _ else _) = _
        rw [if_pos (Or.inr (Or.inr (Or.inr hn1)))]
      simp only [eC] at cC
      clear eC hA
      go_enter Tryd.func4, Tryd.ntmps4
      go_wp2_with (first
        | (go_at_call 10; with_reducible refine (cH _ hb).mono ?_; rintro e w' ⟨rfl, hb'⟩; replace hb := below_step hb hb'; clear hb')
        | (go_at_call 16; with_reducible refine (cC _ hb).mono ?_; rintro e w' ⟨rfl, hb'⟩; replace hb := below_step hb hb'; clear hb')
        | (go_at_call 12; with_reducible refine (cS0 _ hb).mono ?_; rintro e w' ⟨A0, c0, rfl, hR0, hb'⟩; replace hb := below_step hb hb'; clear hb'; have HR0 := Lib.hid hR0; clear hR0))
      go_ret
      exact ⟨rfl, hb⟩
    obtain ⟨k, rfl⟩ : ∃ k : Nat, a1 = k := ⟨a1.toNat, by omega⟩
    by_cases hz : a2 = 0
    · subst hz
      have hkm : k + 0 ≤ A.length := by omega
      have eC : cutS a0.data.toList k 0 = ((A.take k ++ A.drop k).flatten, ((A.drop k).take 0).flatten, 0) := by rw [← eA]; exact cutS_ok lA hkm
      simp only [eC] at cC
      clear eC hA
      obtain ⟨j1, hj1⟩ : ∃ j1 : ByteArray, j1.data.toList = (A.take k).flatten := ⟨⟨(A.take k).flatten.toArray⟩, by simp⟩
      obtain ⟨j2, hj2⟩ : ∃ j2 : ByteArray, j2.data.toList = (A.drop k).flatten := ⟨⟨(A.drop k).flatten.toArray⟩, by simp⟩
      obtain ⟨j3, hj3⟩ : ∃ j3 : ByteArray, j3.data.toList = ((A.drop k).take 0).flatten := ⟨⟨((A.drop k).take 0).flatten.toArray⟩, by simp⟩
      obtain ⟨G, hG⟩ : ∃ G : ByteArray, j1 ++ j2 = G := ⟨_, rfl⟩
      have hGl : G.data.toList = (A.take k ++ A.drop k).flatten := by rw [← hG, app_list, hj1, hj2, List.flatten_append]
      have hX : str (A.take k ++ A.drop k).flatten = .string G := (str_eq hGl).symm
      have hY : str ((A.drop k).take 0).flatten = .string j3 := (str_eq hj3).symm
      have hl1 : (A.take k).flatten.length + (A.drop k).flatten.length ≤ A.flatten.length := by
        have := lefC_len A k 0
        unfold lefC at this
        rw [List.flatten_append, List.length_append] at this
        exact this
      have hl3 := outC_len A k 0
      unfold outC at hl3
      have hs1 : j1.size ≤ 300 := by rw [← size_list, hj1]; omega
      have hs2 : j2.size ≤ 300 := by rw [← size_list, hj2]; omega
      simp only [hX, hY] at cC
      have cL := fun (W : World) => len_any lA a0 eA.symm (by omega) W
      have cJ1 := fun (W : World) (a : Option Addr) (c : Nat) (h : IsStrs W a (A.take k)) => join_any a k c (A.take k) (by rw [List.length_take]; omega) W h (by omega) (by rw [List.length_take]; omega)
      have cJ2 := fun (W : World) (a : Option Addr) (c : Nat) (h : IsStrs W a (A.drop k)) => join_any a (A.length - k) c (A.drop k) (by rw [List.length_drop]) W h (by omega) (by rw [List.length_drop]; omega)
      have cJ3 := fun (W : World) (a : Option Addr) (c : Nat) (h : IsStrs W a ((A.drop k).take 0)) => join_any a 0 c ((A.drop k).take 0) (by rw [List.length_take, List.length_drop]; omega) W h (by omega) (by rw [List.length_take]; omega)
      simp only [← str_eq hj1] at cJ1
      simp only [← str_eq hj2] at cJ2
      simp only [← str_eq hj3] at cJ3
      have hcat1 : ∀ wx : World, (Op.stringOp .add j1 j2).run Tryd.prog wx = .ok (.string G) wx := fun wx => by rw [← hG]; exact run_string_add wx j1 j2 (by omega) (by omega)
      have hwr : IntKind.i64.wrap ((k : Int) + 0) = (k : Int) + 0 := by rw [IntKind.wrap_i64]; omega
      clear hX hY hGl hj1 hj2 hj3 hG hl1 hl3
      go_enter Tryd.func4, Tryd.ntmps4
      go_wp2_with (first
        | (go_at_call 10; with_reducible refine (cH _ hb).mono ?_; rintro e w' ⟨rfl, hb'⟩; replace hb := below_step hb hb'; clear hb')
        | (go_at_call 16; with_reducible refine (cC _ hb).mono ?_; rintro e w' ⟨rfl, hb'⟩; replace hb := below_step hb hb'; clear hb')
        | (go_at_call 12; with_reducible refine (cS0 _ hb).mono ?_; rintro e w' ⟨A0, c0, rfl, hR0, hb'⟩; replace hb := below_step hb hb'; clear hb'; have HR0 := Lib.hid hR0; clear hR0))
      have hc0 : (k : Int) ≤ (c0 : Int) := by have := HR0.out.le; omega
      have hc1 : (k : Int) ≤ (A.length : Int) := by omega
      have hck0 : (k : Int) ≤ (c0 : Int) := by omega
      have hw0 : IntKind.i64.wrap (k : Int) = (k : Int) := by rw [IntKind.wrap_i64]; omega
      by_cases hck : c0 = k
      · have hck' := hck.symm
        subst hck'
        refine wp_region_seq ((0, true) :: (1, true) :: (2, true) :: (3, true) :: (4, true) :: (5, true) :: (6, true) :: (8, true) :: (9, true) :: (10, true) :: (11, true) :: (12, true) :: (7, false) :: (13, false) :: (14, true) :: (15, true) :: (16, true) :: (17, true) :: (18, true) :: (19, true) :: (20, true) :: (21, true) :: (22, true) :: (23, true) :: (24, true) :: (25, false) :: (26, true) :: (27, true) :: (28, true) :: (29, true) :: (31, true) :: (32, true) :: (30, false) :: (33, true) :: (34, true) :: (35, true) :: []) (by kernel_rfl) (by kernel_rfl) (by kernel_rfl) (by decide) (fun _ _ _ _ _ h => h) (fun hHeld => ?_)
        repeat (first
          | (refine seq_take (v := ?_) rfl ?_ ?_ ?_; rotate_left 1; rfl; (focus (intro wS hSw; have hk := below_rule hSw; go_simp; first | done | with_reducible rfl)); (try simp only [Act.put, List.setIfInBounds_toArray, List.set_cons_zero, List.set_cons_succ]))
          | (refine seq_skip rfl ?_ ?_; rfl; (try simp only [Act.put, List.setIfInBounds_toArray, List.set_cons_zero, List.set_cons_succ]))
          | (refine seq_run rfl (fun K hK => ?_); go_simp; (try (first | (go_at_call 14; (with_reducible refine (cJ1 _ _ _ ((HR0.out.is.take k).later hHeld)).mono ?_); rintro e w' ⟨rfl, hb'⟩) | (go_at_call 14; (with_reducible refine (cJ2 _ _ _ ((HR0.out.drop_eq rfl).later hHeld)).mono ?_); rintro e w' ⟨rfl, hb'⟩) | (go_at_call 14; (with_reducible refine (cJ3 _ _ _ ((HR0.out.mid_eq rfl 0).later hHeld)).mono ?_); rintro e w' ⟨rfl, hb'⟩) | (go_at_call 15; refine (cL _).mono ?_; rintro e w' ⟨rfl, hb'⟩))); (try go_wp2_with fail); refine hK.out _ _ ?_ ?_; (focus (first | exact below_step hHeld hb' | exact below_new hHeld _ | exact hHeld)); (try clear hb'); clear hHeld hK K; intro hHeld; (try simp only [Act.put, List.setIfInBounds_toArray, List.set_cons_zero, List.set_cons_succ])))
        first | refine seq_done ?_ | skip
        go_wp2_with fail
        go_ret
        exact ⟨rfl, below_step hb hHeld⟩
      · skip
        refine wp_region_seq ((0, true) :: (1, true) :: (2, true) :: (3, true) :: (4, true) :: (5, true) :: (6, true) :: (8, true) :: (9, true) :: (10, true) :: (11, true) :: (12, true) :: (7, false) :: (13, false) :: (14, true) :: (15, true) :: (16, true) :: (17, true) :: (18, true) :: (19, true) :: (20, true) :: (21, true) :: (22, true) :: (23, true) :: (24, true) :: (25, false) :: (26, true) :: (27, true) :: (28, true) :: (29, true) :: (31, true) :: (32, true) :: (30, false) :: (33, true) :: (34, true) :: (35, true) :: []) (by kernel_rfl) (by kernel_rfl) (by kernel_rfl) (by decide) (fun _ _ _ _ _ h => h) (fun hHeld => ?_)
        repeat (first
          | (refine seq_take (v := ?_) rfl ?_ ?_ ?_; rotate_left 1; rfl; (focus (intro wS hSw; have hk := below_rule hSw; go_simp; first | done | with_reducible rfl)); (try simp only [Act.put, List.setIfInBounds_toArray, List.set_cons_zero, List.set_cons_succ]))
          | (refine seq_skip rfl ?_ ?_; rfl; (try simp only [Act.put, List.setIfInBounds_toArray, List.set_cons_zero, List.set_cons_succ]))
          | (refine seq_run rfl (fun K hK => ?_); go_simp; (try (first | (go_at_call 14; (with_reducible refine (cJ1 _ _ _ ((HR0.out.is.take k).later hHeld)).mono ?_); rintro e w' ⟨rfl, hb'⟩) | (go_at_call 14; (with_reducible refine (cJ2 _ _ _ ((HR0.out.drop_ne hck).later hHeld)).mono ?_); rintro e w' ⟨rfl, hb'⟩) | (go_at_call 14; (with_reducible refine (cJ3 _ _ _ ((HR0.out.mid_ne hck 0).later hHeld)).mono ?_); rintro e w' ⟨rfl, hb'⟩) | (go_at_call 15; refine (cL _).mono ?_; rintro e w' ⟨rfl, hb'⟩))); (try go_wp2_with fail); refine hK.out _ _ ?_ ?_; (focus (first | exact below_step hHeld hb' | exact below_new hHeld _ | exact hHeld)); (try clear hb'); clear hHeld hK K; intro hHeld; (try simp only [Act.put, List.setIfInBounds_toArray, List.set_cons_zero, List.set_cons_succ])))
        first | refine seq_done ?_ | skip
        go_wp2_with fail
        go_ret
        exact ⟨rfl, below_step hb hHeld⟩
    · obtain ⟨m, rfl⟩ : ∃ m : Nat, a2 = m := ⟨a2.toNat, by omega⟩
      have hkm : k + m ≤ A.length := by omega
      have eC : cutS a0.data.toList k (m : Int) = ((A.take k ++ A.drop (k + m)).flatten, ((A.drop k).take m).flatten, 0) := by rw [← eA]; exact cutS_ok lA hkm
      simp only [eC] at cC
      clear eC hA
      obtain ⟨j1, hj1⟩ : ∃ j1 : ByteArray, j1.data.toList = (A.take k).flatten := ⟨⟨(A.take k).flatten.toArray⟩, by simp⟩
      obtain ⟨j2, hj2⟩ : ∃ j2 : ByteArray, j2.data.toList = (A.drop (k + m)).flatten := ⟨⟨(A.drop (k + m)).flatten.toArray⟩, by simp⟩
      obtain ⟨j3, hj3⟩ : ∃ j3 : ByteArray, j3.data.toList = ((A.drop k).take m).flatten := ⟨⟨((A.drop k).take m).flatten.toArray⟩, by simp⟩
      obtain ⟨G, hG⟩ : ∃ G : ByteArray, j1 ++ j2 = G := ⟨_, rfl⟩
      have hGl : G.data.toList = (A.take k ++ A.drop (k + m)).flatten := by rw [← hG, app_list, hj1, hj2, List.flatten_append]
      have hX : str (A.take k ++ A.drop (k + m)).flatten = .string G := (str_eq hGl).symm
      have hY : str ((A.drop k).take m).flatten = .string j3 := (str_eq hj3).symm
      have hl1 : (A.take k).flatten.length + (A.drop (k + m)).flatten.length ≤ A.flatten.length := by
        have := lefC_len A k m
        unfold lefC at this
        rw [List.flatten_append, List.length_append] at this
        exact this
      have hl3 := outC_len A k m
      unfold outC at hl3
      have hs1 : j1.size ≤ 300 := by rw [← size_list, hj1]; omega
      have hs2 : j2.size ≤ 300 := by rw [← size_list, hj2]; omega
      simp only [hX, hY] at cC
      have cL := fun (W : World) => len_any lA a0 eA.symm (by omega) W
      have cJ1 := fun (W : World) (a : Option Addr) (c : Nat) (h : IsStrs W a (A.take k)) => join_any a k c (A.take k) (by rw [List.length_take]; omega) W h (by omega) (by rw [List.length_take]; omega)
      have cJ2 := fun (W : World) (a : Option Addr) (c : Nat) (h : IsStrs W a (A.drop (k + m))) => join_any a (A.length - (k + m)) c (A.drop (k + m)) (by rw [List.length_drop]) W h (by omega) (by rw [List.length_drop]; omega)
      have cJ3 := fun (W : World) (a : Option Addr) (c : Nat) (h : IsStrs W a ((A.drop k).take m)) => join_any a m c ((A.drop k).take m) (by rw [List.length_take, List.length_drop]; omega) W h (by omega) (by rw [List.length_take]; omega)
      simp only [← str_eq hj1] at cJ1
      simp only [← str_eq hj2] at cJ2
      simp only [← str_eq hj3] at cJ3
      have hcat1 : ∀ wx : World, (Op.stringOp .add j1 j2).run Tryd.prog wx = .ok (.string G) wx := fun wx => by rw [← hG]; exact run_string_add wx j1 j2 (by omega) (by omega)
      have hwr : IntKind.i64.wrap ((k : Int) + (m : Int)) = (k : Int) + (m : Int) := by rw [IntKind.wrap_i64]; omega
      clear hX hY hGl hj1 hj2 hj3 hG hl1 hl3
      go_enter Tryd.func4, Tryd.ntmps4
      go_wp2_with (first
        | (go_at_call 10; with_reducible refine (cH _ hb).mono ?_; rintro e w' ⟨rfl, hb'⟩; replace hb := below_step hb hb'; clear hb')
        | (go_at_call 16; with_reducible refine (cC _ hb).mono ?_; rintro e w' ⟨rfl, hb'⟩; replace hb := below_step hb hb'; clear hb')
        | (go_at_call 12; with_reducible refine (cS0 _ hb).mono ?_; rintro e w' ⟨A0, c0, rfl, hR0, hb'⟩; replace hb := below_step hb hb'; clear hb'; have HR0 := Lib.hid hR0; clear hR0))
      have hc0 : (k : Int) + (m : Int) ≤ (c0 : Int) := by have := HR0.out.le; omega
      have hc1 : (k : Int) + (m : Int) ≤ (A.length : Int) := by omega
      have hck0 : (k : Int) ≤ (c0 : Int) := by omega
      have hm0 : ¬ m = 0 := by omega
      have hkk : (k : Int) ≤ (k : Int) + (m : Int) := by omega
      have hk00 : 0 ≤ (k : Int) + (m : Int) := by omega
      have htn : ((k : Int) + (m : Int)).toNat = k + m := by omega
      have hck : ¬ c0 = k := by omega
      by_cases hcm : c0 = k + m
      · subst hcm
        refine wp_region_seq ((0, true) :: (1, true) :: (2, true) :: (3, true) :: (4, true) :: (5, true) :: (6, true) :: (8, true) :: (9, true) :: (10, true) :: (11, true) :: (12, true) :: (7, false) :: (13, false) :: (14, true) :: (15, true) :: (16, true) :: (17, true) :: (18, true) :: (19, true) :: (20, true) :: (21, true) :: (22, true) :: (23, true) :: (24, true) :: (25, false) :: (26, true) :: (27, true) :: (28, true) :: (29, true) :: (31, true) :: (32, true) :: (30, false) :: (33, true) :: (34, true) :: (35, true) :: []) (by kernel_rfl) (by kernel_rfl) (by kernel_rfl) (by decide) (fun _ _ _ _ _ h => h) (fun hHeld => ?_)
        repeat (first
          | (refine seq_take (v := ?_) rfl ?_ ?_ ?_; rotate_left 1; rfl; (focus (intro wS hSw; have hk := below_rule hSw; go_simp; first | done | with_reducible rfl)); (try simp only [Act.put, List.setIfInBounds_toArray, List.set_cons_zero, List.set_cons_succ]))
          | (refine seq_skip rfl ?_ ?_; rfl; (try simp only [Act.put, List.setIfInBounds_toArray, List.set_cons_zero, List.set_cons_succ]))
          | (refine seq_run rfl (fun K hK => ?_); go_simp; (try (first | (go_at_call 14; (with_reducible refine (cJ1 _ _ _ ((HR0.out.is.take k).later hHeld)).mono ?_); rintro e w' ⟨rfl, hb'⟩) | (go_at_call 14; (with_reducible refine (cJ2 _ _ _ ((HR0.out.drop_eq rfl).later hHeld)).mono ?_); rintro e w' ⟨rfl, hb'⟩) | (go_at_call 14; (with_reducible refine (cJ3 _ _ _ ((HR0.out.mid_ne hck m).later hHeld)).mono ?_); rintro e w' ⟨rfl, hb'⟩) | (go_at_call 15; refine (cL _).mono ?_; rintro e w' ⟨rfl, hb'⟩))); (try go_wp2_with fail); refine hK.out _ _ ?_ ?_; (focus (first | exact below_step hHeld hb' | exact below_new hHeld _ | exact hHeld)); (try clear hb'); clear hHeld hK K; intro hHeld; (try simp only [Act.put, List.setIfInBounds_toArray, List.set_cons_zero, List.set_cons_succ])))
        first | refine seq_done ?_ | skip
        go_wp2_with fail
        go_ret
        exact ⟨rfl, below_step hb hHeld⟩
      · skip
        refine wp_region_seq ((0, true) :: (1, true) :: (2, true) :: (3, true) :: (4, true) :: (5, true) :: (6, true) :: (8, true) :: (9, true) :: (10, true) :: (11, true) :: (12, true) :: (7, false) :: (13, false) :: (14, true) :: (15, true) :: (16, true) :: (17, true) :: (18, true) :: (19, true) :: (20, true) :: (21, true) :: (22, true) :: (23, true) :: (24, true) :: (25, false) :: (26, true) :: (27, true) :: (28, true) :: (29, true) :: (31, true) :: (32, true) :: (30, false) :: (33, true) :: (34, true) :: (35, true) :: []) (by kernel_rfl) (by kernel_rfl) (by kernel_rfl) (by decide) (fun _ _ _ _ _ h => h) (fun hHeld => ?_)
        repeat (first
          | (refine seq_take (v := ?_) rfl ?_ ?_ ?_; rotate_left 1; rfl; (focus (intro wS hSw; have hk := below_rule hSw; go_simp; first | done | with_reducible rfl)); (try simp only [Act.put, List.setIfInBounds_toArray, List.set_cons_zero, List.set_cons_succ]))
          | (refine seq_skip rfl ?_ ?_; rfl; (try simp only [Act.put, List.setIfInBounds_toArray, List.set_cons_zero, List.set_cons_succ]))
          | (refine seq_run rfl (fun K hK => ?_); go_simp; (try (first | (go_at_call 14; (with_reducible refine (cJ1 _ _ _ ((HR0.out.is.take k).later hHeld)).mono ?_); rintro e w' ⟨rfl, hb'⟩) | (go_at_call 14; (with_reducible refine (cJ2 _ _ _ ((HR0.out.drop_ne hcm).later hHeld)).mono ?_); rintro e w' ⟨rfl, hb'⟩) | (go_at_call 14; (with_reducible refine (cJ3 _ _ _ ((HR0.out.mid_ne hck m).later hHeld)).mono ?_); rintro e w' ⟨rfl, hb'⟩) | (go_at_call 15; refine (cL _).mono ?_; rintro e w' ⟨rfl, hb'⟩))); (try go_wp2_with fail); refine hK.out _ _ ?_ ?_; (focus (first | exact below_step hHeld hb' | exact below_new hHeld _ | exact hHeld)); (try clear hb'); clear hHeld hK K; intro hHeld; (try simp only [Act.put, List.setIfInBounds_toArray, List.set_cons_zero, List.set_cons_succ])))
        first | refine seq_done ?_ | skip
        go_wp2_with fail
        go_ret
        exact ⟨rfl, below_step hb hHeld⟩
end Go.Proofs.YtkdfgdhfjaapiaaDoor
