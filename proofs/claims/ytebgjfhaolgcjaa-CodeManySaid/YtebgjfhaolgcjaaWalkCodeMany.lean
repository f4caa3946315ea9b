/-
  CodeMany answers true for all numbers, and leaves all memory that was there as it was. No condition.
-/
import Derived.Test.YtebgjfhaolgcjaaCodeHead
import Derived.Test.YtebgjfhaolgcjaaManyPure
import Derived.Test.YtebgjfhaolgcjaaBits
namespace Go.Proofs.Ytebgjfhaolgcjaa
open Go.RowKit
set_option linter.unusedVariables false

theorem IsObj.ofRow {w : World} {base g n sz : Nat} {e : TypeId} {xs : List Value} (h : w.ownsRow base e sz (.slice (some ⟨g, 0, none⟩) n n) n xs) : IsObj w g xs :=
  ⟨fun j x hj => by rw [h.cellAt j (by have h1 := (List.getElem?_eq_some_iff.1 hj).1; have h2 := h.1; omega)]; exact hj, fun o => h.frozenAt o, (h.lt g rfl).2⟩
theorem and_7 (a : Int) : bits .and .i64 a 7 = a % 8 := by rw [show (7 : Int) = ((7 : Nat) : Int) from rfl, and_i64 a 7 3 rfl (by decide)]; rfl
theorem made_u8 (n : Nat) (h : 4 ≤ n) : ((madeCells (Value.int .u8 0).cells (n * 1)).toList.take (4 * 1)) = ([0, 0, 0, 0] : List Int).map u8 := by
  have h2 : (madeCells (Value.int .u8 0).cells n).toList = List.replicate n (.int .u8 0) := toList_madeCells_one (.int .u8 0) n
  rw [show n * 1 = n from Nat.mul_one n, h2, List.take_replicate, show min (4 * 1) n = 4 by omega]
  rfl
theorem isAt_obj {w : World} {g : Nat} {xs : List Value} (h : IsObj w g xs) : IsAt w (some ⟨g, 0, none⟩) xs := fun _ => ⟨g, 0, rfl, h.lt, fun j u hj => by rw [Nat.zero_add]; exact h.at' j u hj⟩
theorem many_byt (n : Nat) : Byt ([1, 1, 0, 0] ++ encs (List.replicate n mvS)) := byt_script (by decide) (fun m hm => (many_good n m hm).1)
abbrev manyB (i : Nat) : List Int := [1, 1, 0, 0] ++ encs (List.replicate i mvS)
theorem manyB_len (i : Nat) : (manyB i).length = 4 + 2 * i := by
  rw [List.length_append, many_encs]
  rfl
theorem manyB_snoc (i : Nat) : (manyB (i + 1)).map u8 = (manyB i).map u8 ++ [u8 1, u8 0] := by
  show ([1, 1, 0, 0] ++ encs (List.replicate (i + 1) mvS)).map u8 = ([1, 1, 0, 0] ++ encs (List.replicate i mvS)).map u8 ++ _
  rw [many_snoc, ← List.append_assoc]
  exact List.map_append
theorem own_capM {w : World} {base n cap sz : Nat} {e : TypeId} {A : Option Addr} {xs : List Value} (h : w.ownsRow base e sz (.slice A n cap) n xs) : n ≤ cap := by
  rcases h.2 with ⟨hv, h0⟩ | ⟨g, cap', cur, hv, _, _, hc, _⟩
  · omega
  · cases hv
    exact hc
abbrev tMany (base : Nat) (A : Option Addr) (cp i : Nat) : Thing := tRow base 5 1 (.slice A (4 + 2 * i) cp) (4 + 2 * i) ((manyB i).map u8)

set_option maxRecDepth 100000 in
set_option maxHeartbeats 8000000 in
theorem walk_CodeMany (a0 : Int) (w : World) (w0 : (Lit.int .i64 a0).wf = true) :
    Calls Try.prog 3 #[.int .i64 a0] w fun e w' => e = .returned (.bool true) ∧ Below w.heap.size w w' := by
  clear w0
  obtain ⟨k, hk⟩ : ∃ k : Nat, bits .and .i64 a0 7 = k := ⟨(a0 % 8).toNat, by rw [and_7]; omega⟩
  have hk7 : k ≤ 7 := by rw [and_7] at hk; omega
  obtain ⟨n, hn⟩ : ∃ n : Nat, (65533 : Int) + (k : Int) = n := ⟨65533 + k, by omega⟩
  have hn0 : 65533 ≤ n := by omega
  have hn1 : n ≤ 65540 := by omega
  obtain ⟨mm, hmm⟩ : ∃ mm : Nat, 2 * (n : Int) + 4 = mm := ⟨2 * n + 4, by omega⟩
  have HMM := Lib.hid (show 4 ≤ mm ∧ mm ≤ 140000 by omega)
  obtain ⟨ii, hi0, hz0, hz1, hz2⟩ := elem_cm.info
  obtain ⟨jj, hj0, hy0, hy1, hy2⟩ := elem_u8.info
  go_enter Try.func3, Try.ntmps3
  go_wp2_with fail
  refine (head18_any _).mono ?_
  rintro e w1 ⟨rfl, hb1⟩
  have HB1 := Lib.hid hb1
  clear hb1
  go_wp2_with (at_make; first | (refine wpList_make_full _ rfl _ _ 26 rfl w1.heap.size 37 ii _ 7 elem_cm.und hi0 hz0 hz1 .i64 .i64 _ _ n rfl rfl rfl rfl (by rw [hz2]; omega) (by unfold maxLen; omega) (Nat.le_refl _) ?_; intro w2 hown hgrow; go_loud (rw [made_many] at hown; have HH2 := Lib.hid (((Hold.nil (Below.refl w1.heap.size w1)).more (A := tObj w1.heap.size w1.heap.size (flatM (manyL n 0))) ((Below.refl _ _).grown hgrow (Nat.le_refl _) (fun k hk => by cases hk)) (tObj_ok _ _ _) ⟨IsObj.ofRow hown, Nat.le_refl _⟩ (fun q hq => by cases hq; exact Nat.le_refl _)).more (A := tObj w1.heap.size w2.heap.size [i64 1, i64 1, i64 0, i64 0, .slice (some ⟨w1.heap.size, 0, none⟩) n n]) (below_new (Below.refl _ _) (.cells #[.int .i64 1, .int .i64 1, .int .i64 0, .int .i64 0, .slice (some ⟨w1.heap.size, 0, none⟩) n n] 28)) (tObj_ok _ _ _) ⟨IsObj.made w2 [i64 1, i64 1, i64 0, i64 0, .slice (some ⟨w1.heap.size, 0, none⟩) n n] 28, hgrow.size⟩ (fun q hq => by cases hq; exact Nat.le_refl _)); clear hown hgrow)) | (go_loud (refine list_make_part rfl _ _ 29 rfl w1.heap.size 5 jj (.int .u8 0) 1 elem_u8.und hj0 hy0 hy1 .i64 .i64 4 mm rfl rfl (by have := HMM.out; omega) (by rw [hy2]; have := HMM.out; omega) (by unfold maxLen; have := HMM.out; omega) HH2.out.size ?_); intro w3 hown3 hgrow3; go_loud (rw [made_u8 mm HMM.out.1] at hown3; have HH3 := Lib.hid (HH2.out.more (A := tRow w1.heap.size 5 1 (.slice (some ⟨w2.heap.size + 1, 0, none⟩) 4 mm) 4 (([0, 0, 0, 0] : List Int).map u8)) ((Below.refl _ _).grown hgrow3 (Nat.le_refl _) (fun k hk => by cases hk)) (tRow_ok _ _ _ _ _ _) (by have h := hown3; rw [World.size_alloc] at h; exact h) (fun q hq => by have h : some (w2.heap.size + 1) = some q := hq; cases h; rw [World.size_alloc]; exact Nat.le_refl _)); clear hown3 hgrow3 HH2; have hrb : w3.ownsRow w1.heap.size 5 1 (.slice (some ⟨w2.heap.size + 1, 0, none⟩) 4 mm) 4 (([0, 0, 0, 0] : List Int).map u8) := HH3.out.has 2 _ rfl; have b0 := hrb.cellAt 0 (by decide); have b1 := hrb.cellAt 1 (by decide); have f0 := hrb.frozenAt 0; have f1 := hrb.frozenAt 1; have hbl := (hrb.lt (w2.heap.size + 1) rfl).2; have s4 := (HH3.out.has 1 _ rfl : IsObj w3 w2.heap.size [i64 1, i64 1, i64 0, i64 0, .slice (some ⟨w1.heap.size, 0, none⟩) n n] ∧ _).1.at' 4 _ rfl; have hsl := (HH3.out.has 1 _ rfl : IsObj w3 w2.heap.size [i64 1, i64 1, i64 0, i64 0, .slice (some ⟨w1.heap.size, 0, none⟩) n n] ∧ _).1.lt; clear hrb)))
  have HH4 := Lib.hid ((HH3.out.stored 2 rfl 0 (u8 1)).stored 2 rfl 1 (u8 1))
  clear b0 b1 f0 f1 hbl s4 hsl HH3
  obtain ⟨rb, hrb⟩ : ∃ rb, w2.heap.size + 1 = rb := ⟨_, rfl⟩
  obtain ⟨sb, hsb⟩ : ∃ sb, w2.heap.size = sb := ⟨_, rfl⟩
  obtain ⟨mb, hmb⟩ : ∃ mb, w1.heap.size = mb := ⟨_, rfl⟩
  rw [hrb, hsb] at HH4 ⊢
  have HH5 : Hid (Hold w1 (((w3.setCell ⟨rb, 0, none⟩ (u8 1)).setCell ⟨rb, 1, none⟩ (u8 1))) [tObj w1.heap.size mb (flatM (manyL n 0)), tObj w1.heap.size sb [i64 1, i64 1, i64 0, i64 0, .slice (some ⟨mb, 0, none⟩) n n], tMany w1.heap.size (some ⟨rb, 0, none⟩) mm 0]) := Lib.hid (by
    have h := HH4.out
    rw [show tObj w1.heap.size w1.heap.size (flatM (manyL n 0)) = tObj w1.heap.size mb (flatM (manyL n 0)) by rw [hmb], show (Value.slice (some ⟨w1.heap.size, 0, none⟩) n n) = .slice (some ⟨mb, 0, none⟩) n n by rw [hmb]] at h
    exact h)
  rw [hmb]
  clear HH4 hrb hsb hmb
  go_loopw [4, 31] (fun bv iv wr => ∃ (i : Nat) (A1 : Option Addr) (cp1 : Nat), i ≤ n ∧ bv = .slice A1 (4 + 2 * i) cp1 ∧ iv = .int .i64 i ∧ Hid (Hold w1 wr [tObj w1.heap.size mb (flatM (manyL n i)), tObj w1.heap.size sb [i64 1, i64 1, i64 0, i64 0, .slice (some ⟨mb, 0, none⟩) n n], tMany w1.heap.size A1 cp1 i])) (fun _ iv _ => n - (RowKit.intOf iv).toNat)
  case atStart => exact ⟨0, _, _, Nat.zero_le _, rfl, rfl, HH5⟩
  case round =>
    clear HH5
    obtain ⟨i, A1, cp1, hi, rfl, rfl, HH⟩ := hrel
    rcases Nat.lt_or_ge i n with hil | hil
    · have hil' : (i : Int) < (n : Int) := by omega
      have hin : ¬ n = 0 := by omega
      have ho := (HH.out.has 0 _ rfl : IsObj wr mb (flatM (manyL n i)) ∧ _).1
      have hs := (HH.out.has 1 _ rfl : IsObj wr sb [i64 1, i64 1, i64 0, i64 0, .slice (some ⟨mb, 0, none⟩) n n] ∧ _).1
      have s4 := hs.at' 4 _ rfl
      have hsl := hs.lt
      have hol := ho.lt
      have c0 := ho.at' (i * 7) (.int .i64 0) (by
        have h1 : (manyL n i)[i]? = some mvZ := by
          unfold manyL
          rw [List.getElem?_append_right (by rw [List.length_replicate]; exact Nat.le_refl _), List.length_replicate, Nat.sub_self, List.getElem?_replicate, if_pos (by omega)]
        have h2 := flatM_at h1 (j := 0) (by decide)
        rw [Nat.add_zero] at h2
        rw [h2]
        rfl)
      have f0 := ho.fz (i * 7)
      have HS := Lib.hid (HH.out.cdSet 0 rfl (i * 7) (i64 1))
      have HLa := Lib.hid (HS.out.later (below_new (Below.refl _ _) (.cells #[u8 1, u8 0] 5)))
      clear ho hs
      go_wp2_with (at_builtin; go_loud (refine list_append_grew rfl _ _ 29 rfl w1.heap.size 5 _ 1 1 elem_u8 (.slice A1 (4 + 2 * i) cp1) (4 + 2 * i) ((manyB i).map u8) rfl (HLa.out.has 2 _ rfl) (some ⟨_, 0, none⟩) 2 2 [u8 1, u8 0] rfl (src8_at _ _ [u8 1, u8 0] 2 (by simp) rfl (one_u8 [1, 0])) (by unfold maxLen; omega) (by omega) HLa.out.size ?_); intro v' w8 hG; go_loud (obtain ⟨A3, cp3, rfl⟩ := own_shape hG.own; have HH8 := Lib.hid (HLa.out.append 2 rfl rfl hG); clear hG))
      go_roundw
      case rel =>
        refine ⟨i + 1, A3, cp3, by omega, by rw [show 4 + 2 * (i + 1) = 4 + 2 * i + 2 by omega], by go_num, Lib.hid ?_⟩
        have h := HH8.out
        rw [← manyB_snoc] at h
        rw [← manyL_set hil]
        exact h
      case measure => first | omega | (simp [RowKit.intOf]; done) | (simp [RowKit.intOf]; omega)
    · obtain rfl : i = n := by omega
      have hnn : ¬ (i : Int) < (i : Int) := by omega
      have hs := (HH.out.has 1 _ rfl : IsObj wr sb [i64 1, i64 1, i64 0, i64 0, .slice (some ⟨mb, 0, none⟩) i i] ∧ _).1
      obtain ⟨q0, q1, q2, q3, q4⟩ : _ ∧ _ ∧ _ ∧ _ ∧ _ := ⟨hs.at' 0 _ rfl, hs.at' 1 _ rfl, hs.at' 2 _ rfl, hs.at' 3 _ rfl, hs.at' 4 _ rfl⟩
      have hsl := hs.lt
      have ho := (HH.out.has 0 _ rfl : IsObj wr mb (flatM (manyL i i)) ∧ _).1
      rw [manyL_all] at ho
      have HRB : Hid (wr.ownsRow w1.heap.size 5 1 (.slice A1 (4 + 2 * i) cp1) (4 + 2 * i) ((manyB i).map u8)) := Lib.hid (HH.out.has 2 _ rfl)
      have HBr := Lib.hid (below_step HB1.out HH.out.below)
      obtain ⟨ms, hms⟩ : ∃ ms, List.replicate i mvS = ms := ⟨_, rfl⟩
      have hml : ms.length = i := by rw [← hms, List.length_replicate]
      have HGD : Hid (∀ m ∈ ms, m.Good) := Lib.hid (hms ▸ many_good i)
      have HBY := Lib.hid (many_byt i)
      have HEL : Hid ((encs (ms.take 65536)).length = 2 * min 65536 i) := Lib.hid (by rw [← hms, List.take_replicate, many_encs])
      rw [hms] at ho HBY
      have hE := encode_any 1 1 0 0 (some ⟨mb, 0, none⟩) i ms wr (isAt_obj ho) (fun m hm => (HGD.out m hm).2) (by omega)
      have hD := fun (w' : World) (hb : Below wr.heap.size wr w') => decode_any A1 (manyB i) cp1 w' ((IsAt.own HRB.out).later hb) (by unfold manyB; rw [hms]; exact HBY.out) (by rw [manyB_len]; exact own_capM HRB.out) (by rw [manyB_len]; omega)
      rw [hml] at hE
      have HE := Lib.hid hE
      have HD := Lib.hid hD
      have HMS := Lib.hid hms
      have HML := Lib.hid hml
      clear hs ho hE hD hms hml HH hil hi
      rcases Nat.lt_or_ge 65536 i with hbig | hsm
      · have hbig' : (65536 : Int) < (i : Int) := by omega
        go_wp2_with fail
        refine HE.out.mono ?_
        rintro r w2' ⟨vE, eE, rfl, hbE, hEI⟩
        obtain ⟨rfl, rfl⟩ : eE = 7 ∧ vE = .slice none 0 0 := by
          cases hEI with
          | conf h => exact absurd h (by decide)
          | many _ _ => exact ⟨rfl, rfl⟩
          | arg _ h _ => have := HML.out; omega
          | ok _ h _ _ _ => have := HML.out; omega
        have HBE := Lib.hid (below_step HBr.out hbE)
        have hd := HD.out w2' hbE
        rw [manyB_len] at hd
        clear hbE hEI q0 q1 q2 q3 q4 hsl
        go_wp2_with fail
        refine hd.mono ?_
        rintro r w3' ⟨vD, nD, eD, rfl, hbD, hDP⟩
        obtain ⟨rfl, hnd, rfl⟩ := hDP.more (ms := ms) (by unfold manyB; rw [HMS.out]; rfl) (by decide) HGD.out (by rw [HML.out]; exact hbig)
        rw [HEL.out] at hnd
        obtain rfl : nD = 131076 := by omega
        have HBD := Lib.hid (below_new (below_step HBE.out hbD) (.cells #[.int .i64 0, .int .i64 0, .int .i64 0, .int .i64 0, .slice none 0 0] 28))
        clear hbD hDP hnd
        unfold scV
        go_wp2_with fail
        go_ret
        exact ⟨rfl, HBD.out⟩
      · have hsm' : ¬ (65536 : Int) < (i : Int) := by omega
        go_wp2_with fail
        refine HE.out.mono ?_
        rintro r w2' ⟨vE, eE, rfl, hbE, hEI⟩
        obtain ⟨rfl, hoE⟩ := hEI.yes (by decide) (by rw [HML.out]; exact hsm) (fun m hm => (HGD.out m hm).1)
        obtain ⟨AE, cE, rfl⟩ := own_shape hoE
        have hlE : ([(1 : Int), 1, 0, 0] ++ encs ms).length = 4 + 2 * i := by rw [← HMS.out]; exact manyB_len i
        have HRE := Lib.hid (Row8.own hoE HBY.out)
        rw [hlE]
        have HBE := Lib.hid (below_step HBr.out hbE)
        have hd := HD.out w2' hbE
        rw [manyB_len] at hd
        have HRW : Hid (Row8 w2' A1 ([1, 1, 0, 0] ++ encs ms)) := Lib.hid (by
          have h := HRB.out
          unfold manyB at h
          rw [HMS.out, ← hlE] at h
          exact (Row8.own h HBY.out).later hbE)
        have HLE := Lib.hid hlE
        clear hbE hEI hoE q0 q1 q2 q3 q4 hsl hlE
        go_wp2_with fail
        refine hd.mono ?_
        rintro r w3' ⟨vD, nD, eD, rfl, hbD, hDP⟩
        obtain ⟨rfl, hnd, AD, cD, rfl, hoD⟩ := hDP.yes (ms := ms) (by unfold manyB; rw [HMS.out]; rfl) (by decide) HGD.out (by rw [HML.out]; exact hsm)
        rw [manyB_len] at hnd
        rw [HML.out]
        obtain rfl : nD = ((4 + 2 * i : Nat) : Int) := hnd
        have hbx := below_step hbD (below_new (Below.refl _ _) (.cells #[.int .i64 1, .int .i64 1, .int .i64 0, .int .i64 0, .slice AD i cD] 28))
        have hsame := same18_any AE A1 ([1, 1, 0, 0] ++ encs ms) ([1, 1, 0, 0] ++ encs ms) cE cp1 _ (HRE.out.later hbx) (HRW.out.later hbx)
        have HBD := Lib.hid (below_step HBE.out hbx)
        rw [HLE.out] at hsame
        have HSM := Lib.hid hsame
        clear hbD hDP hoD hbx hsame
        unfold scV
        go_wp2_with fail
        refine HSM.out.mono ?_
        rintro r w4' ⟨rfl, rfl⟩
        rw [show decide True = true from rfl]
        go_wp2_with fail
        go_ret
        exact ⟨rfl, HBD.out⟩
end Go.Proofs.Ytebgjfhaolgcjaa
