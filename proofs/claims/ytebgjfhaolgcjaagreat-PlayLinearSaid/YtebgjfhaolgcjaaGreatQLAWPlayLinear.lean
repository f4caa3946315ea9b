/-
  PlayLinear answers true for all numbers, for a stack and a queue, and all lists of moves, and leaves all memory that was there as it was. No condition.
-/
import Derived.Test.YtebgjfhaolgcjaaGreatQLA9
import Derived.Test.YtebgjfhaolgcjaaGreatQLA10
import Derived.Test.YtebgjfhaolgcjaaGreatQLA11
namespace Go.Proofs.YtebgjfhaolgcjaaGreat
open Go.RowKit
set_option linter.unusedVariables false

theorem wp_make_top {P : Program} {o : Oper} {a : Act} {w : World} {K : Act → World → Prop} {Q : Exit → Act → World → Prop} (l c : Operand) (t : TypeId) (hop : o.op = Op.makeSlice t l c)
    (base : Nat) (e : TypeId) (i : TypeInfo) (z : Value) (size : Nat) (h1 : P.underlying t = some (.slice e)) (h2 : P.info? e = some i) (h3 : i.zero = some z) (h4 : i.size = size)
    (kl kc : IntKind) (n : Nat) (hl : a.eval l = .int kl (n : Int)) (hc : a.eval c = .int kc (n : Int)) (b2 : i.bytes * n ≤ 281474976710656) (b3 : n ≤ maxLen) (b4 : base ≤ w.heap.size)
    (hK : ∀ w', w'.ownsRow base e size (.slice (some ⟨w.heap.size, 0, none⟩) n n) n (madeCells z.cells (n * size)).toList → w.grownBy w' none → K (a.put o.dst (.slice (some ⟨w.heap.size, 0, none⟩) n n)) w') :
    Oper.wp P o a w K Q := by
  obtain ⟨w', hrun, r1, r2⟩ := run_make_full (P := P) w base t e i z size h1 h2 h3 h4 kl kc n b2 b3 b4
  unfold Oper.wp
  simp [execOp, hop, hl, hc, hrun, Result.andThen]
  exact hK w' r1 r2
theorem none_in (n k : Nat) : ¬ inS (List.replicate n false) k := fun h => by
  unfold inS at h
  rw [List.getD_eq_getElem?_getD, List.getElem?_replicate] at h
  split at h <;> simp at h
/-- An order of them is found. -/
theorem some_yes {ds : List Dd} {W w : World} {A : Option Addr} {n cp tb : Nat} (hD : IsDds W A n cp tb 0 ds) (hn : n ≤ 1000) (hK : ∀ d ∈ ds, d.e = 0 ∨ d.e = 1) (hO : ∃ O, Holds ds (fun _ => False) [] O) (hb : Below W.heap.size W w) {ab : Option Addr} {capb : Nat} (hI : IsB w ab (List.replicate n false)) (hc : n ≤ capb) :
    Calls Tryz.prog 22 #[.slice A n cp, .slice ab n capb, .slice none 0 0] w fun r w' => r = .returned (.bool true) ∧ Below w.heap.size w w' := by
  obtain ⟨O, hO⟩ := hO
  exact zEq ds W A n cp tb 0 hD hn hK n w ab capb (List.replicate n false) none 0 [] true hb (by rw [List.countP_replicate]; simp) List.length_replicate hc (Nat.zero_le _) (Nat.le_refl _) hI (IsU.nil _ _) ⟨fun _ => ⟨O, hO.lin.same (fun k => ⟨fun h => h.elim, fun h => none_in n k h⟩)⟩, fun _ => rfl⟩
/-- Calls of such moves: an order holds. -/
theorem few_lin {B : YB} {N : Nat} {S : List CM} {Y : Nat → Yd} {A : List Int} {md : Int} (h : PTr B N S Y A) (hN : N < 1048576) (hF : FewOk md S) (hm : md = 0 ∨ md = 1) : ∃ O, Holds (Y S.length).ds (fun _ => False) [] O := by
  have hk := (h.deeds S.length (Nat.le_refl _)).2
  have he : ∀ d ∈ (Y S.length).ds, d.e = modeE md d.kd := fun d hd => h.have (Nat.le_refl _) (P := fun a => a.2.2.1 = modeE md a.2.1) (fun m hm k0 => (hF m hm).2 k0) hd
  rcases hm with rfl | rfl
  · exact zDp h.tr hN (fun i d hd => (hk d (List.mem_of_getElem? hd)).1) (fun i d hd => he d (List.mem_of_getElem? hd))
  · refine zDx h.tr hN (fun i d hd => (hk d (List.mem_of_getElem? hd)).1) (fun i d hd => ?_)
    have h1 := he d (List.mem_of_getElem? hd)
    rw [h1]
    unfold modeE
    rcases (hk d (List.mem_of_getElem? hd)).1 with q | q
    · rw [if_neg (by omega), q]; rfl
    · rw [if_pos ⟨rfl, q⟩, q]; rfl

set_option maxRecDepth 100000 in
set_option maxHeartbeats 8000000 in
theorem walk_PlayLinear (a0 : Int) (a1 : Int) (a2 : Int) (a3 : Bool) (a4 : Option Addr) (len4 cap4 : Nat) (w : World) (w0 : (Lit.int .i64 a0).wf = true) (w1 : (Lit.int .i64 a1).wf = true) (w2 : (Lit.int .i64 a2).wf = true) (w4 : IsRows w [.inl .i64, .inl .i64, .inl .i64, .inl .i64, .inr true, .inr true, .inl .u64, .inl .i64] a4 len4 cap4) :
    Calls Tryz.prog 4 #[.int .i64 a0, .int .i64 a1, .int .i64 a2, .bool a3, .slice a4 len4 cap4] w fun e w' => e = .returned (.bool true) ∧ Below w.heap.size w w' := by
  clear w0 w1 w2
  obtain ⟨V, rfl, hV⟩ := zES w4
  have HV := zIW hV
  clear w4 hV
  rcases Nat.lt_or_ge 300 V.length with hbig | hs4
  · have hbig' : (300 : Int) < (V.length : Int) := by omega
    go_enter Tryz.func4, Tryz.ntmps4
    go_wp2_with fail
    refine (zBF _).mono ?_
    rintro e w1 ⟨rfl, hb1⟩
    go_wp2_with fail
    go_ret
    exact ⟨rfl, hb1⟩
  have hs5 : ¬ (300 : Int) < (V.length : Int) := by omega
  have HCF := zIW (fun w => zEn a0 a1 a2 1 w)
  rw [show (1 : Int) % 4 = 1 from rfl] at HCF
  obtain ⟨T, hT⟩ : ∃ T : Nat, 1 + a0 % 4 = T := ⟨(1 + a0 % 4).toNat, by omega⟩
  obtain ⟨s, hs⟩ : ∃ s, 1 + a1 % 4 = s := ⟨_, rfl⟩
  obtain ⟨so, hso⟩ : ∃ so, wrap64 ((IntKind.u64.wrap a2).tmod 5) = so := ⟨_, rfl⟩
  have ho := src5 a2
  rw [hso] at ho
  rw [hT, hs, hso] at HCF
  obtain ⟨N, hN⟩ : ∃ N : Nat, (T : Int) * s = N := ⟨((T : Int) * s).toNat, by have := Int.mul_nonneg (by omega : (0 : Int) ≤ (T : Int)) (by omega : 0 ≤ s); omega⟩
  have HLAY : Hid (Lay T s N) := zIW (hN ▸ Lay.mk' (by omega) (by omega) (by omega) (by omega))
  have hT4 : T ≤ 4 := by omega
  have hT1 : 1 ≤ T := by omega
  have hN16 : N ≤ 16 := by
    have h2 : (T : Int) * s ≤ 4 * 4 := Int.mul_le_mul (by omega) (by omega) (by omega) (by omega)
    omega
  have HSO := zIW ho
  clear hT hs hso hN ho
  go_enter Tryz.func4, Tryz.ntmps4
  go_wp2_with fail
  refine (zBF _).mono ?_
  rintro e w1 ⟨rfl, hb1⟩
  have HB1 := zIW hb1
  have HV1 := zIW (HV.out.later hb1)
  clear hb1 HV
  go_wp2_with fail
  go_loopw [26] (fun iv wr => ∃ i : Nat, i ≤ V.length ∧ iv = .int .i64 i ∧ Hid (Below w1.heap.size w1 wr)) (fun iv _ => V.length - (RowKit.intOf iv).toNat)
  case atStart => exact ⟨0, Nat.zero_le _, rfl, zIW (Below.refl _ _)⟩
  case round =>
    obtain ⟨i, hi, rfl, HB⟩ := hrel
    rcases Nat.lt_or_ge i V.length with hil | hil
    · have hil' : (i : Int) < (V.length : Int) := by omega
      obtain ⟨v, hv⟩ : ∃ v, V[i]? = some v := ⟨_, List.getElem?_eq_getElem hil⟩
      obtain ⟨b, off, rfl, hat⟩ := HV1.out.at' i v hv
      obtain ⟨e0, e1, e2, e3, e4, e5, e6, e7⟩ := hat.later HB.out
      have hcap := HV1.out.cap
      have HBa := zIW (zAA HB.out (v.obj 32))
      clear hat hv
      go_wp2_with fail
      refine (zBj v _).mono ?_
      rintro r w3 ⟨rfl, hb3⟩
      have HBb := zIW (zAD HBa.out hb3)
      clear hb3 e0 e1 e2 e3 e4 e5 e6 e7
      generalize v.make = m
      go_wp2_with fail
      refine (zCU m _).mono ?_
      rintro r w4 ⟨rfl, hb4⟩
      have HBc := zIW (zAD HBb.out hb4)
      have HBz := zIW (zAD HB1.out HBc.out)
      clear hb4
      by_cases hmr : m.Right
      · rw [decide_eq_true hmr]
        clear hmr
        go_wp2_with fail
        go_roundw
        case rel => exact ⟨i + 1, by omega, by go_num, HBc⟩
        case measure => first | omega | (simp [RowKit.intOf]; done) | (simp [RowKit.intOf]; omega)
      · rw [decide_eq_false hmr]
        clear hmr
        go_wp2_with fail
        go_ret
        exact ⟨rfl, HBz.out⟩
    · obtain rfl : i = V.length := by omega
      have hnn : ¬ (V.length : Int) < (V.length : Int) := by omega
      have HVr := zIW (HV1.out.later HB.out)
      have HBr := zIW (zAD HB1.out HB.out)
      clear HB HV1 HB1
      go_upto_if 35 with (fail)
      go_cut [13] (fun mv wx => ∃ md : Int, mv = .int .i64 md ∧ (md = 0 ∨ md = 1) ∧ wx = wr)
      case first =>
        cases a3
        · go_wp2_with fail
          go_meet
          exact ⟨0, rfl, .inl rfl, rfl⟩
        · go_wp2_with fail
          go_meet
          exact ⟨1, rfl, .inr rfl, rfl⟩
      case rest =>
        obtain ⟨md, rfl, hmd, rfl⟩ := hcut
        have HMD := zIW hmd
        clear hmd
        go_wp2_with fail
        refine (HCF.out _).mono ?_
        rintro r w5 ⟨rfl, hb5⟩
        have hb6 := zAA hb5 (.cells #[.int .i64 T, .int .i64 s, .int .i64 so, .int .i64 1] 24)
        have HO := zIW (IsObj.made w5 [.int .i64 T, .int .i64 s, .int .i64 so, .int .i64 1] 24)
        have HV6 := zIW (HVr.out.later hb6)
        have HB6 := zIW (zAD HBr.out hb6)
        clear hb5 hb6 HCF HVr HBr
        go_wp2_with fail
        generalize w5.alloc (.cells #[.int .i64 T, .int .i64 s, .int .i64 so, .int .i64 1] 24) = w6 at HO HV6 HB6 ⊢
        generalize w5.heap.size = cb at HO ⊢
        have hS : ∀ wx, Below w6.drew.heap.size w6.drew wx → IsObj wx cb [.int .i64 T, .int .i64 s, .int .i64 so, .int .i64 1] := fun wx hb => HO.out.later (zAD (Below.refl _ _).drew hb)
        have HS := zIW hS
        clear hS
        refine zAE ((fun wx => wx.cell? ⟨cb, 0, none⟩ = some (.int .i64 T) ∧ wx.cell? ⟨cb, 1, none⟩ = some (.int .i64 s) ∧ wx.cell? ⟨cb, 2, none⟩ = some (.int .i64 so) ∧ wx.cell? ⟨cb, 3, none⟩ = some (.int .i64 1))) ((0, true) :: (1, true) :: (2, true) :: (3, true) :: (4, true) :: (5, false) :: (6, true) :: (7, false) :: (8, true) :: (9, true) :: (10, true) :: (11, true) :: (12, true) :: (13, true) :: (14, true) :: []) (by kernel_rfl) (by kernel_rfl) (by kernel_rfl) (by decide) (fun _ _ _ _ _ h => h) ((have h := HS.out _ (Below.refl _ _); ⟨h.at' 0 _ rfl, h.at' 1 _ rfl, h.at' 2 _ rfl, h.at' 3 _ rfl⟩)) ?_
        repeat (first | (refine zAC (v := ?_) rfl ?_ ?_ ?_; rotate_left 1; rfl; (focus (intro wS hSw; obtain ⟨e0, e1, e2, e3⟩ := hSw; go_simp; first | done | with_reducible rfl)); (try simp only [Act.put, List.setIfInBounds_toArray, List.set_cons_zero, List.set_cons_succ])) | (refine zAB rfl ?_ ?_; rfl; (try simp only [Act.put, List.setIfInBounds_toArray, List.set_cons_zero, List.set_cons_succ])))
        refine zAH rfl (fun K hK => ?_)
        go_simp
        go_at_call 20
        refine (zDg md 7 T a4 cap4 V _ (HV6.out.later (Below.refl _ _).drew) (by omega) HMD.out (by omega)).mono ?_
        rintro r w7 ⟨Bf, cf7, S, rfl, hb7, hrow, hSl, hF⟩
        (try go_wp2_with fail)
        have HB7 := zIW (zAD (zAD HB6.out (Below.refl _ _).drew) hb7)
        have HIS := zIW (IsAt.own hrow)
        have HF := zIW hF
        have HO7 := zIW (HS.out _ hb7)
        have h7 := HO7.out
        clear hb7 hrow hF
        refine hK.out _ _ (⟨h7.at' 0 _ rfl, h7.at' 1 _ rfl, h7.at' 2 _ rfl, h7.at' 3 _ rfl⟩) (fun _ => ?_)
        (try simp only [Act.put, List.setIfInBounds_toArray, List.set_cons_zero, List.set_cons_succ])
        clear hK K
        clear h7
        repeat (first | (refine zAC (v := ?_) rfl ?_ ?_ ?_; rotate_left 1; rfl; (focus (intro wS hSw; obtain ⟨e0, e1, e2, e3⟩ := hSw; go_simp; first | done | with_reducible rfl)); (try simp only [Act.put, List.setIfInBounds_toArray, List.set_cons_zero, List.set_cons_succ])) | (refine zAB rfl ?_ ?_; rfl; (try simp only [Act.put, List.setIfInBounds_toArray, List.set_cons_zero, List.set_cons_succ])))
        refine zAH rfl (fun K hK => ?_)
        go_simp
        go_at_call 11
        refine (zDF T s so 1 N Bf cf7 S _ HIS.out (fun m hm => (HF.out m hm).1) (by omega) HLAY.out HSO.out.1 HSO.out.2 (by decide) (by decide)).mono ?_
        rintro r w8 ⟨W, l, yb, ytb, p, c, Yf, An, J, g, rfl, hbW, hR⟩
        (try go_wp2_with fail)
        have HBW := zIW (zAD HB7.out hbW)
        have HYD := zIW hR.yd
        have HLIN := zIW (few_lin hR.tr (by omega) HF.out HMD.out)
        have HK := zIW (fun d hd => ((hR.tr.deeds S.length (Nat.le_refl _)).2 d hd).2)
        have h9 := (HO7.out).later (zAD hbW hR.yd.h.below)
        clear hbW hR HIS HF
        refine hK.out _ _ (⟨h9.at' 0 _ rfl, h9.at' 1 _ rfl, h9.at' 2 _ rfl, h9.at' 3 _ rfl⟩) (fun _ => ?_)
        (try simp only [Act.put, List.setIfInBounds_toArray, List.set_cons_zero, List.set_cons_succ])
        clear hK K
        clear h9
        repeat (first | (refine zAC (v := ?_) rfl ?_ ?_ ?_; rotate_left 1; rfl; (focus (intro wS hSw; obtain ⟨e0, e1, e2, e3⟩ := hSw; go_simp; first | done | with_reducible rfl)); (try simp only [Act.put, List.setIfInBounds_toArray, List.set_cons_zero, List.set_cons_succ])) | (refine zAB rfl ?_ ?_; rfl; (try simp only [Act.put, List.setIfInBounds_toArray, List.set_cons_zero, List.set_cons_succ])))
        refine zAI ?_
        clear HS HO HO7 HV6 HB6 HB7
        go_wp2_with fail
        refine (HYD.out.deedsT (by omega) (by show T ≤ 1000; omega)).mono ?_
        rintro r w9 ⟨A9, cp9, tb, rfl, hb9, hD⟩
        have HB9 := zIW (zAD HBW.out (HYD.out.later hb9).h.below)
        have HD := zIW hD
        have hdl : (Yf S.length).ds.length ≤ 300 := by have := HYD.out.ok.nds; have := HYD.out.ok.most; omega
        clear hb9 hD HYD HBW
        generalize (Yf S.length).ds = ds at HD HLIN HK hdl ⊢
        obtain ⟨n, hn⟩ : ∃ n, ds.length = n := ⟨_, rfl⟩
        rw [hn] at hdl HD ⊢
        clear hn
        obtain ⟨ii, hi0, hz0, hz1, hz2⟩ := zBB.info
        go_wp2_with (at_make; refine wpList_make_full _ rfl _ _ 60 rfl w9.heap.size 4 ii (.bool false) 1 zBB.und hi0 hz0 hz1 .i64 .i64 _ _ n rfl rfl rfl rfl (by rw [hz2]; omega) (by unfold maxLen; omega) (Nat.le_refl _) ?_; intro wa hown hgrow)
        have hba : Below w9.heap.size w9 wa := (Below.refl _ _).grown hgrow (Nat.le_refl _) (fun k hk => by cases hk)
        rw [zCh] at hown
        have HIB := zIW (IsB.own hown)
        have HBa := zIW (zAD HB9.out hba)
        have HDa := zIW (HD.out.less hba)
        clear hown hgrow hba HD hi0 hz0 hz1 hz2
        refine (some_yes HDa.out (by omega) HK.out HLIN.out (Below.refl _ _) HIB.out.1 (Nat.le_refl _)).mono ?_
        rintro r wb ⟨rfl, hbb⟩
        have HBb := zIW (zAD HBa.out hbb)
        clear hbb
        go_wp2_with fail
        go_ret
        exact ⟨rfl, HBb.out⟩
end Go.Proofs.YtebgjfhaolgcjaaGreat
