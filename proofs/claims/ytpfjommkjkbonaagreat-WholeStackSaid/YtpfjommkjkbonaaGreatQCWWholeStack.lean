/-
  WholeStack answers true for all numbers and lists of moves, and leaves all memory that was there as it was. No condition.
-/
import Derived.Test.YtpfjommkjkbonaaGreatQC12
import Derived.Test.YtpfjommkjkbonaaGreatQC11
namespace Go.Proofs.YtpfjommkjkbonaaGreat
open Go.RowKit
set_option linter.unusedVariables false

set_option maxRecDepth 100000 in
set_option maxHeartbeats 8000000 in
theorem walk_WholeStack (a0 : Int) (a1 : Int) (a2 : Int) (a3 : Option Addr) (len3 cap3 : Nat) (w : World) (w0 : (Lit.int .i64 a0).wf = true) (w1 : (Lit.int .i64 a1).wf = true) (w2 : (Lit.int .i64 a2).wf = true) (w3 : IsRows w [.inl .i64, .inl .i64, .inl .i64, .inl .i64, .inr true, .inr true, .inl .u64, .inl .i64] a3 len3 cap3) :
    Calls Tryz.prog 8 #[.int .i64 a0, .int .i64 a1, .int .i64 a2, .slice a3 len3 cap3] w fun e w' => e = .returned (.bool true) ∧ Below w.heap.size w w' := by
  clear w0 w1 w2
  obtain ⟨V, rfl, hV⟩ := zCE w3
  have HV := zJH hV
  clear w3 hV
  rcases Nat.lt_or_ge 300 V.length with hbig | hs4
  · have hbig' : (300 : Int) < (V.length : Int) := by omega
    go_enter Tryz.func8, Tryz.ntmps8
    go_wp2_with fail
    refine (zAs _).mono ?_
    rintro e w1 ⟨rfl, hb1⟩
    go_wp2_with fail
    go_ret
    exact ⟨rfl, hb1⟩
  have hs5 : ¬ (300 : Int) < (V.length : Int) := by omega
  go_enter Tryz.func8, Tryz.ntmps8
  go_wp2_with fail
  refine (zAs _).mono ?_
  rintro e w1 ⟨rfl, hb1⟩
  have HB1 := zJH hb1
  have HV1 := zJH (HV.out.later hb1)
  clear hb1 HV
  go_wp2_with fail
  refine (zDz a0 a1 a2 0 7 a3 cap3 V _ HV1.out (by omega) (.inl rfl)).mono ?_
  rintro r w2 ⟨W, l, yb, ytb, p, c, T, s, so, N, S, Yf, An, J, g, hR, hTe⟩
  obtain rfl := hR.ret
  have HY := zJH hR.run.yd
  have HB2 := zJH (zAB HB1.out hR.below)
  have hT4 := hR.T4
  have hn16 := hR.n16
  have hak := hR.ok.asks hR.is hR.run.tr
  have hst : ∀ d ∈ (Yf S.length).ds, d.e = 1 := fun d hd => hR.run.tr.have (Nat.le_refl _) (P := fun a => a.2.2.1 = 1) (fun m hm k0 => zDT (T := 1 + a0 % 4) (most := 7) V m (by rw [← hTe, hR.is]; exact hm) k0) hd
  have hlin := zEa hR.run.tr.tr (by omega) (fun i d hd => (hak.dkind (List.mem_of_getElem? hd)).1) (fun i d hd => hst d (List.mem_of_getElem? hd))
  have hSl : S.length ≤ 300 := by have h := hR.ok.len; have := hR.few; rw [hR.is] at h; omega
  have HLIN := zJH hlin
  have HK := zJH (fun d hd => (hak.dkind (d := d) hd).2)
  clear hR hak hst hlin HB1 HV1 hTe
  generalize hYe : Yf S.length = Y at HY HLIN HK
  clear hYe
  go_wp2_with fail
  refine (HY.out.deedsT (by omega) (by show T ≤ 1000; omega)).mono ?_
  rintro r w3 ⟨A3, cp3, tb, rfl, hb3, hD⟩
  have HB3 := zJH (zAB HB2.out (HY.out.later hb3).h.below)
  have HD := zJH hD
  have hdl : Y.ds.length ≤ 300 := by have := HY.out.ok.nds; have := HY.out.ok.most; omega
  clear hb3 hD HY
  obtain ⟨n, hn⟩ : ∃ n, Y.ds.length = n := ⟨_, rfl⟩
  rw [hn] at hdl HD ⊢
  have HN := zJH hn
  clear hn
  obtain ⟨ii, hi0, hz0, hz1, hz2⟩ := zAY.info
  go_wp2_with (at_make; refine wpList_make_full _ rfl _ _ 64 rfl w3.heap.size 4 ii (.bool false) 1 zAY.und hi0 hz0 hz1 .i64 .i64 _ _ n rfl rfl rfl rfl (by rw [hz2]; omega) (by unfold maxLen; omega) (Nat.le_refl _) ?_; intro w7 hown hgrow)
  have hb7 : Below w3.heap.size w3 w7 := (Below.refl _ _).grown hgrow (Nat.le_refl _) (fun k hk => by cases hk)
  rw [zAy] at hown
  have HIB := zJH (IsB.own hown)
  have HB7 := zJH (zAB HB3.out hb7)
  have HW7 := zJH hb7
  have hns : ∀ k, ¬ inS (List.replicate n false) k := fun k h => by
    unfold inS at h
    rw [List.getD_eq_getElem?_getD, List.getElem?_replicate] at h
    split at h <;> simp at h
  obtain ⟨O, hO⟩ := HLIN.out
  have hex : ∃ s, Lin Y.ds (inS (List.replicate n false)) [] s := ⟨O, hO.lin.same (fun k => ⟨fun h => h.elim, fun h => hns k h⟩)⟩
  have HEX := zJH hex
  clear hown hgrow hb7 hns hi0 hz0 hz1 hz2 hO hex
  refine (zCG Y.ds w3 A3 n cp3 tb 0 HD.out (by omega) (fun d hd => HK.out d hd) n _ _ n (List.replicate n false) none 0 [] true HW7.out (by rw [List.countP_replicate]; simp) List.length_replicate (Nat.le_refl _) (Nat.zero_le _) (Nat.le_refl _) HIB.out.1 (IsU.nil _ _) ⟨fun _ => HEX.out, fun _ => rfl⟩).mono ?_
  rintro r w8 ⟨rfl, hb8⟩
  have HB8 := zJH (zAB HB7.out hb8)
  clear hb8
  go_wp2_with fail
  go_ret
  exact ⟨rfl, HB8.out⟩
end Go.Proofs.YtpfjommkjkbonaaGreat
