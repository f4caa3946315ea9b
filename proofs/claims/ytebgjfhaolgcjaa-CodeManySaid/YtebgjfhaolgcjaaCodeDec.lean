/-
  The contract of Decode. No condition but that bytes are from 0 to 255, and that there are no more than a million.
-/
import Derived.Test.YtebgjfhaolgcjaaCodeMove
namespace Go.Proofs.Ytebgjfhaolgcjaa
open Go.RowKit
set_option linter.unusedVariables false

theorem Hold.cdSet {W w : World} {l : List Thing} {b : Nat} {xs : List Value} (h : Hold W w l) (i : Nat) (hi : l[i]? = some (tObj W.heap.size b xs)) (j : Nat) (u : Value) : Hold W (w.setCell ⟨b, j, none⟩ u) (l.set i (tObj W.heap.size b (xs.set j u))) := by
  have ho : IsObj w b xs ∧ W.heap.size ≤ b := h.has i _ hi
  exact h.turn i hi (Keep.setCell (T := fun q => q = b) (Keep.refl _ _) ⟨b, j, none⟩ rfl u) (tObj_ok _ _ _) ⟨ho.1.set j u, ho.2⟩ (fun q hq => .inl hq)
theorem Hold.cd5 {W w : World} {l : List Thing} {b : Nat} {x0 x1 x2 x3 x4 : Value} (h : Hold W w l) (hi : l[0]? = some (tObj W.heap.size b [x0, x1, x2, x3, x4])) (v0 v1 v2 v3 v4 : Value) :
    Hold W (((((w.setCell ⟨b, 0, none⟩ v0).setCell ⟨b, 1, none⟩ v1).setCell ⟨b, 2, none⟩ v2).setCell ⟨b, 3, none⟩ v3).setCell ⟨b, 4, none⟩ v4) (l.set 0 (tObj W.heap.size b [v0, v1, v2, v3, v4])) := by
  have hl : 0 < l.length := (List.getElem?_eq_some_iff.1 hi).1
  have h1 := h.cdSet 0 hi 0 v0
  have h2 := h1.cdSet 0 (List.getElem?_set_self hl) 1 v1
  have h3 := h2.cdSet 0 (List.getElem?_set_self (by rw [List.length_set]; exact hl)) 2 v2
  have h4 := h3.cdSet 0 (List.getElem?_set_self (by rw [List.length_set, List.length_set]; exact hl)) 3 v3
  have h5 := h4.cdSet 0 (List.getElem?_set_self (by rw [List.length_set, List.length_set, List.length_set]; exact hl)) 4 v4
  simp only [List.set_set] at h5
  exact h5
theorem src7_at (w : World) (c : Nat) (m : CM) (hb : c = w.heap.size) : Src (w.alloc (m.obj 37)) 7 (some ⟨c, 0, none⟩) 1 m.list := by
  subst hb
  exact src_list w m.list _ 7 1 rfl m.one
/-- A script's value. -/
abbrev scV (t s so d : Int) (v : Value) : Value := .agg #[.int .i64 t, .int .i64 s, .int .i64 so, .int .i64 d, v]
/-- What Decode answers. -/
inductive DecPost (w' : World) (base : Nat) (l : List Int) : Value → Int → Int → Prop
  | short (h : l.length < 4) : DecPost w' base l (scV 0 0 0 0 (.slice none 0 0)) l.length 3
  | conf (t s so d : Int) (r : List Int) (h : l = t :: s :: so :: d :: r) (hr : rightC t s so d = false) : DecPost w' base l (scV 0 0 0 0 (.slice none 0 0)) 0 1
  | bad (t s so d : Int) (r : List Int) (n e : Int) (h : l = t :: s :: so :: d :: r) (hr : rightC t s so d = true) (hd : DecIs r [] n e) (he : e ≠ 0) : DecPost w' base l (scV 0 0 0 0 (.slice none 0 0)) (n + 4) e
  | ok (t s so d : Int) (r : List Int) (ms : List CM) (A : Option Addr) (cp : Nat) (h : l = t :: s :: so :: d :: r) (hr : rightC t s so d = true) (hd : DecIs r ms r.length 0) (ho : w'.ownsRow base 37 7 (.slice A ms.length cp) ms.length (flatM ms)) : DecPost w' base l (scV t s so d (.slice A ms.length cp)) l.length 0
/-- What the loop holds. -/
structure DcH (W w : World) (ob sb rb : Nat) (A : Option Addr) (l : List Int) (cap at' : Nat) (t s so d : Int) (A1 : Option Addr) (cp1 : Nat) (ms : List CM) : Prop where
  h : Hold W w [tObj W.heap.size ob [i64 0, i64 0, i64 0, i64 0, .slice none 0 0], tObj W.heap.size sb [i64 t, i64 s, i64 so, i64 d, .slice A1 ms.length cp1], tRow W.heap.size 37 7 (.slice A1 ms.length cp1) ms.length (flatM ms), tObj W.heap.size rb (rdL A l cap at' false)]
  le : at' ≤ l.length
  is : l.drop 4 = encs ms ++ l.drop at'
  at4 : at' = 4 + (encs ms).length
  good : ∀ m ∈ ms, m.Good
  few : ms.length ≤ 65536

set_option maxRecDepth 100000 in
set_option maxHeartbeats 8000000 in
theorem decode_any (A : Option Addr) (l : List Int) (cap : Nat) (w : World) (h : IsAt w A (l.map u8)) (hb : Byt l) (hc : l.length ≤ cap) (hf : l.length ≤ 1000000) :
    Calls Try.prog 6 #[.slice A l.length cap] w fun r w' => ∃ v n e, r = .returned (.tuple #[v, i64 n, i64 e]) ∧ Below w.heap.size w w' ∧ DecPost w' w.heap.size l v n e := by
  have H := Lib.hid h
  have HBY := Lib.hid hb
  have hbn := below_new (Below.refl w.heap.size w) (.cells #[.int .i64 0, .int .i64 0, .int .i64 0, .int .i64 0, .slice none 0 0] 28)
  have HB := Lib.hid hbn
  have HO := Lib.hid (IsObj.made w [.int .i64 0, .int .i64 0, .int .i64 0, .int .i64 0, .slice none 0 0] 28)
  clear h hb hbn
  rcases Nat.lt_or_ge l.length 4 with h4 | h4
  · have h4' : (l.length : Int) < 4 := by omega
    have H4 := Lib.hid h4
    go_enter Try.func6, Try.ntmps6
    go_wp2_with fail
    exact bodyPost_ret (v := .tuple #[scV 0 0 0 0 (.slice none 0 0), i64 l.length, i64 3]) (by simp [results, Try.results6, go_sem]) rfl ⟨_, _, _, rfl, HB.out, .short H4.out⟩
  have h4' : ¬ (l.length : Int) < 4 := by omega
  obtain ⟨b, off, rfl, hbl, hat⟩ := H.out (by rw [List.length_map]; omega)
  obtain ⟨t, s, so, d, r, hl⟩ : ∃ t s so d r, l = t :: s :: so :: d :: r := by
    match l, h4 with
    | t :: s :: so :: d :: r, _ => exact ⟨t, s, so, d, r, rfl⟩
    | [], h => exact absurd h (by decide)
    | [_], h => exact absurd h (by show ¬ 4 ≤ 1; decide)
    | [_, _], h => exact absurd h (by show ¬ 4 ≤ 2; decide)
    | [_, _, _], h => exact absurd h (by show ¬ 4 ≤ 3; decide)
  have b0 := HBY.out t (by rw [hl]; simp)
  have b1 := HBY.out s (by rw [hl]; simp)
  have b2 := HBY.out so (by rw [hl]; simp)
  have b3 := HBY.out d (by rw [hl]; simp)
  have x0 := hat 0 (u8 t) (by rw [hl]; rfl)
  have x1 := hat 1 (u8 s) (by rw [hl]; rfl)
  have x2 := hat 2 (u8 so) (by rw [hl]; rfl)
  have x3 := hat 3 (u8 d) (by rw [hl]; rfl)
  have HL := Lib.hid hl
  have HLT := Lib.hid hbl
  have hX : ∀ wx, Below w.heap.size w wx → wx.cell? ⟨b, off, none⟩ = some (u8 t) ∧ wx.cell? ⟨b, off + 1, none⟩ = some (u8 s) ∧ wx.cell? ⟨b, off + 2, none⟩ = some (u8 so) ∧ wx.cell? ⟨b, off + 3, none⟩ = some (u8 d) := fun wx hb =>
    ⟨(hb.cell (p := ⟨b, off, none⟩) hbl).trans x0, (hb.cell (p := ⟨b, off + 1, none⟩) hbl).trans x1, (hb.cell (p := ⟨b, off + 2, none⟩) hbl).trans x2, (hb.cell (p := ⟨b, off + 3, none⟩) hbl).trans x3⟩
  have HX := Lib.hid hX
  have w0 : IntKind.i64.wrap t = t := IntWalk.i64_in _ (by omega)
  have w1' : IntKind.i64.wrap s = s := IntWalk.i64_in _ (by omega)
  have w2' : IntKind.i64.wrap so = so := IntWalk.i64_in _ (by omega)
  have w3' : IntKind.i64.wrap d = d := IntWalk.i64_in _ (by omega)
  clear hl hbl hat x0 x1 x2 x3 b0 b1 b2 b3 hX
  have HFW := Lib.hid (show 4 ≤ l.length ∧ l.length ≤ cap ∧ l.length ≤ 1000000 from ⟨h4, hc, hf⟩)
  clear hc hf h4 h4'
  obtain ⟨n, HN⟩ : ∃ n, Hid (l.length = n) := ⟨_, Lib.hid rfl⟩
  have hn4 : ¬ (n : Int) < 4 := by have := HN.out; have := HFW.out; omega
  have hn0 : (0 : Int) < (n : Int) := by omega
  have hn1 : (1 : Int) < (n : Int) := by omega
  have hn2 : (2 : Int) < (n : Int) := by omega
  have hn3 : (3 : Int) < (n : Int) := by omega
  rw [HN.out]
  go_enter Try.func6, Try.ntmps6
  go_wp2_with fail
  generalize (w.alloc (.cells #[.int .i64 0, .int .i64 0, .int .i64 0, .int .i64 0, .slice none 0 0] 28)) = w1 at HB HO ⊢
  have hm0 : 0 < n := by have := HN.out; have := HFW.out; omega
  have hm1 : 1 < n := by have := HN.out; have := HFW.out; omega
  have hm2 : 2 < n := by have := HN.out; have := HFW.out; omega
  have hm3 : 3 < n := by have := HN.out; have := HFW.out; omega
  refine wp_region_seqS ((fun wx => wx.cell? ⟨b, off, none⟩ = some (u8 t) ∧ wx.cell? ⟨b, off + 1, none⟩ = some (u8 s) ∧ wx.cell? ⟨b, off + 2, none⟩ = some (u8 so) ∧ wx.cell? ⟨b, off + 3, none⟩ = some (u8 d))) ((0, true) :: (1, true) :: (2, true) :: (3, true) :: (4, true) :: (5, true) :: (6, true) :: (7, true) :: (8, true) :: (9, true) :: (10, true) :: (11, true) :: (12, true) :: (13, true) :: (14, true) :: (15, true) :: (16, true) :: (17, true) :: (18, false) :: (19, false) :: []) (by kernel_rfl) (by kernel_rfl) (by kernel_rfl) (by decide) (fun _ _ _ _ _ h => h) (HX.out _ (HB.out.drew)) ?_
  repeat (first | (refine seq_take (v := ?_) rfl ?_ ?_ ?_; rotate_left 1; rfl; (focus (intro wS hSw; obtain ⟨c0, c1, c2, c3⟩ := hSw; go_simp; first | done | with_reducible rfl)); (try simp only [Act.put, List.setIfInBounds_toArray, List.set_cons_zero, List.set_cons_succ])) | (refine seq_skip rfl ?_ ?_; rfl; (try simp only [Act.put, List.setIfInBounds_toArray, List.set_cons_zero, List.set_cons_succ])))
  have HBd := Lib.hid HB.out.drew
  have HOd := Lib.hid HO.out.drew
  generalize w1.drew = w2 at HBd HOd ⊢
  refine seq_run rfl (fun K hK => ?_)
  go_simp
  refine hK.out _ _ (HX.out _ (below_new HBd.out _)) (fun _ => ?_)
  (try simp only [Act.put, List.setIfInBounds_toArray, List.set_cons_zero, List.set_cons_succ])
  clear hK K
  refine seq_run rfl (fun K hK => ?_)
  go_simp
  refine hK.out _ _ (HX.out _ (below_new HBd.out _)) (fun _ => ?_)
  (try simp only [Act.put, List.setIfInBounds_toArray, List.set_cons_zero, List.set_cons_succ])
  clear hK K
  refine seq_done ?_
  clear hm0 hm1 hm2 hm3 hn0 hn1 hn2 hn3 hn4
  have HH1 := (Hold.nil (Below.refl w.heap.size w)).more (A := tObj w.heap.size w.heap.size [i64 0, i64 0, i64 0, i64 0, .slice none 0 0]) HBd.out (tObj_ok _ _ _) ⟨HOd.out, Nat.le_refl _⟩ (fun q hq => by cases hq; exact Nat.le_refl _)
  have HH2 := HH1.more (A := tObj w.heap.size w2.heap.size [i64 t, i64 s, i64 so, i64 d, .slice none 0 0]) (below_new (Below.refl _ _) (.cells #[.int .i64 t, .int .i64 s, .int .i64 so, .int .i64 d, .slice none 0 0] 28)) (tObj_ok _ _ _) ⟨IsObj.made w2 [i64 t, i64 s, i64 so, i64 d, .slice none 0 0] 28, HBd.out.size⟩ (fun q hq => by cases hq; exact Nat.le_refl _)
  have HH3 := Lib.hid (HH2.more (A := tRow w.heap.size 37 7 (.slice none 0 0) 0 []) (Below.refl _ _) (tRow_ok _ _ _ _ _ _) (World.ownsRow_nil _ _ _ _) (fun q hq => by cases hq))
  clear HH1 HH2 HBd HOd HB HO
  generalize hsb : w2.heap.size = sb at HH3 ⊢
  clear hsb
  generalize (w2.alloc (.cells #[.int .i64 t, .int .i64 s, .int .i64 so, .int .i64 d, .slice none 0 0] 28)) = w3 at HH3 ⊢
  have hso := (HH3.out.has 1 _ rfl : IsObj w3 sb [i64 t, i64 s, i64 so, i64 d, .slice none 0 0] ∧ _).1
  have q0 := hso.at' 0 _ rfl
  have q1 := hso.at' 1 _ rfl
  have q2 := hso.at' 2 _ rfl
  have q3 := hso.at' 3 _ rfl
  clear hso w0 w1' w2' w3'
  rcases Bool.eq_false_or_eq_true (rightC t s so d) with hr | hr
  case inr =>
    have HR := Lib.hid hr
    clear hr
    go_wp2_with fail
    refine (cright_at t s so d false HR.out _).mono ?_
    rintro r' w4 ⟨rfl, hb⟩
    have HH4 := Lib.hid (HH3.out.later hb)
    clear HH3 hb q0 q1 q2 q3
    have hob := (HH4.out.has 0 _ rfl : IsObj w4 w.heap.size [i64 0, i64 0, i64 0, i64 0, .slice none 0 0] ∧ _).1
    have o0 := hob.at' 0 _ rfl
    have o1 := hob.at' 1 _ rfl
    have o2 := hob.at' 2 _ rfl
    have o3 := hob.at' 3 _ rfl
    have o4 := hob.at' 4 _ rfl
    have g0 := hob.fz 0
    have g1 := hob.fz 1
    have g2 := hob.fz 2
    have g3 := hob.fz 3
    have g4 := hob.fz 4
    clear hob
    go_wp2_with fail
    have hH5 := HH4.out.cd5 rfl (i64 0) (i64 0) (i64 0) (i64 0) (.slice none 0 0)
    generalize (((((w4.setCell ⟨w.heap.size, 0, none⟩ (i64 0)).setCell ⟨w.heap.size, 1, none⟩ (i64 0)).setCell ⟨w.heap.size, 2, none⟩ (i64 0)).setCell ⟨w.heap.size, 3, none⟩ (i64 0)).setCell ⟨w.heap.size, 4, none⟩ (.slice none 0 0)) = w9 at hH5 ⊢
    have hob := (hH5.has 0 _ rfl : IsObj w9 w.heap.size [i64 0, i64 0, i64 0, i64 0, .slice none 0 0] ∧ _).1
    have r0 := hob.at' 0 _ rfl
    have r1 := hob.at' 1 _ rfl
    have r2 := hob.at' 2 _ rfl
    have r3 := hob.at' 3 _ rfl
    have r4 := hob.at' 4 _ rfl
    exact bodyPost_ret (v := .tuple #[scV 0 0 0 0 (.slice none 0 0), i64 0, i64 1]) (by simp [results, Try.results6, go_sem, r0, r1, r2, r3, r4]) rfl ⟨_, _, _, rfl, hH5.below, .conf t s so d r HL.out HR.out⟩
  have HR := Lib.hid hr
  clear hr
  go_wp2_with fail
  refine (cright_at t s so d true HR.out _).mono ?_
  rintro r' w4 ⟨rfl, hb⟩
  have HH4 := Lib.hid (HH3.out.later hb)
  clear HH3 hb q0 q1 q2 q3
  have hln := HN.out
  subst hln
  have hHH5 := HH4.out.more (A := tObj w.heap.size w4.heap.size (rdL (some ⟨b, off, none⟩) l cap 4 false)) (below_new (Below.refl _ _) (.cells #[.slice (some ⟨b, off, none⟩) l.length cap, .int .i64 4, .bool false] 47)) (tObj_ok _ _ _) ⟨IsObj.made w4 (rdL (some ⟨b, off, none⟩) l cap 4 false) 47, HH4.out.size⟩ (fun q hq => by cases hq; exact Nat.le_refl _)
  have HD0 : Hid (DcH w (w4.alloc (.cells #[.slice (some ⟨b, off, none⟩) l.length cap, .int .i64 4, .bool false] 47)) w.heap.size sb w4.heap.size (some ⟨b, off, none⟩) l cap 4 t s so d none 0 []) := Lib.hid ⟨hHH5, HFW.out.1, by rw [HL.out]; rfl, rfl, (fun m hm => by cases hm), by decide⟩
  have HRB := Lib.hid (show b ≠ w4.heap.size from fun e => by have := HLT.out; have := HH4.out.size; omega)
  have HSZ := Lib.hid HH4.out.size
  clear hHH5 HH4 HX
  go_wp2_with fail
  generalize hrb : w4.heap.size = rb at HD0 HRB HSZ ⊢
  clear hrb
  generalize (w4.alloc (.cells #[.slice (some ⟨b, off, none⟩) l.length cap, .int .i64 4, .bool false] 47)) = w5 at HD0 ⊢
  go_loopw [7] (fun _ wr => ∃ (at' : Nat) (A1 : Option Addr) (cp1 : Nat) (ms : List CM), Hid (DcH w wr w.heap.size sb rb (some ⟨b, off, none⟩) l cap at' t s so d A1 cp1 ms)) (fun _ wx => l.length - (RowKit.intOf ((wx.cell? ⟨rb, 1, none⟩).getD undef)).toNat)
  case atStart => exact ⟨4, _, _, [], HD0⟩
  case round =>
    clear HD0
    obtain ⟨at', A1, cp1, ms, HD⟩ := hrel
    have hh := HD.out.h
    have hrdo := (hh.has 3 _ rfl : IsObj wr rb (rdL (some ⟨b, off, none⟩) l cap at' false) ∧ _).1
    have HRD := Lib.hid (show RdIn wr rb (some ⟨b, off, none⟩) l cap at' false from ⟨hrdo, H.out.later hh.below, HFW.out.2.1, fun b' off' e => by cases e; exact HRB.out, HD.out.le, HBY.out, HFW.out.2.2⟩)
    have k1 := hrdo.at' 1 _ rfl
    have HHold := Lib.hid hh
    have HIS := Lib.hid (show l.drop 4 = encs ms ++ l.drop at' ∧ at' = 4 + (encs ms).length ∧ (∀ m ∈ ms, m.Good) ∧ ms.length ≤ 65536 from ⟨HD.out.is, HD.out.at4, HD.out.good, HD.out.few⟩)
    have hle := HD.out.le
    have HK1 := Lib.hid k1
    clear hh hrdo
    have hdr : l.drop 4 = r := by rw [HL.out]; rfl
    have HDR := Lib.hid hdr
    clear hdr
    rcases Nat.lt_or_ge at' l.length with hlt | hge
    · have hlt' : (at' : Int) < (l.length : Int) := by omega
      have HLE := Lib.hid hlt
      clear HD
      go_wp2_with fail
      refine (rmove_any rb (some ⟨b, off, none⟩) l cap at' _ HRD.out).mono ?_
      rintro r' w6 ⟨m, ok, rfl, k6, a2, s2, hR6, hM6⟩
      have HH6 := Lib.hid (HHold.out.turn 3 rfl (A' := tObj w.heap.size rb (rdL (some ⟨b, off, none⟩) l cap a2 s2)) k6 (tObj_ok _ _ _) ⟨hR6.obj, HSZ.out⟩ (fun q hq => .inl hq))
      have HM6 := Lib.hid hM6
      have HR6 := Lib.hid hR6
      clear k6 hR6 hM6 HHold HRD k1
      have HH7 := Lib.hid (HH6.out.later (below_new (Below.refl _ _) (m.obj 37)))
      have HMB := Lib.hid (IsObj.made w6 m.list 37)
      cases ok with
      | false =>
        clear HMB
        have hob := (HH7.out.has 0 _ rfl : IsObj (w6.alloc (m.obj 37)) w.heap.size [i64 0, i64 0, i64 0, i64 0, .slice none 0 0] ∧ _).1
        have o0 := hob.at' 0 _ rfl
        have o1 := hob.at' 1 _ rfl
        have o2 := hob.at' 2 _ rfl
        have o3 := hob.at' 3 _ rfl
        have o4 := hob.at' 4 _ rfl
        have g0 := hob.fz 0
        have g1 := hob.fz 1
        have g2 := hob.fz 2
        have g3 := hob.fz 3
        have g4 := hob.fz 4
        clear hob
        go_wp2_with fail
        have hH5 := HH7.out.cd5 rfl (i64 0) (i64 0) (i64 0) (i64 0) (.slice none 0 0)
        generalize ((((((w6.alloc (m.obj 37)).setCell ⟨w.heap.size, 0, none⟩ (i64 0)).setCell ⟨w.heap.size, 1, none⟩ (i64 0)).setCell ⟨w.heap.size, 2, none⟩ (i64 0)).setCell ⟨w.heap.size, 3, none⟩ (i64 0)).setCell ⟨w.heap.size, 4, none⟩ (.slice none 0 0)) = w9 at hH5 ⊢
        have hob := (hH5.has 0 _ rfl : IsObj w9 w.heap.size [i64 0, i64 0, i64 0, i64 0, .slice none 0 0] ∧ _).1
        have r0 := hob.at' 0 _ rfl
        have r1 := hob.at' 1 _ rfl
        have r2 := hob.at' 2 _ rfl
        have r3 := hob.at' 3 _ rfl
        have r4 := hob.at' 4 _ rfl
        obtain ⟨i1, i2, i3, i4⟩ := HIS.out
        rcases HM6.out with ⟨_, hno⟩ | ⟨hf, _⟩
        · have hd : DecIs r [] ((encs ms).length : Int) 3 := .form ms (l.drop at') i3 i4 (by rw [← HDR.out]; exact i1) (fun e => by have := HLE.out; rw [List.drop_eq_nil_iff] at e; omega) hno
          have hp := DecPost.bad (w' := w9) (base := w.heap.size) t s so d r _ _ HL.out HR.out hd (by decide)
          rw [show (((encs ms).length : Int) + 4) = (at' : Int) by omega] at hp
          refine bodyPost_ret (v := .tuple #[scV 0 0 0 0 (.slice none 0 0), i64 at', i64 3]) (by simp [results, Try.results6, go_sem, r0, r1, r2, r3, r4]) rfl ⟨_, _, _, rfl, hH5.below, ?_⟩
          exact hp
        · cases hf
      | true =>
        rcases (by have := HIS.out.2.2.2; omega : ms.length = 65536 ∨ ms.length < 65536) with hn | hn
        · have hn' : (ms.length : Int) = 65536 := by omega
          have HN6 := Lib.hid hn
          have hsb := (HH7.out.has 1 _ rfl : IsObj (w6.alloc (m.obj 37)) sb [i64 t, i64 s, i64 so, i64 d, .slice A1 ms.length cp1] ∧ _).1
          have s4 := hsb.at' 4 _ rfl
          clear hsb HMB
          have hob := (HH7.out.has 0 _ rfl : IsObj (w6.alloc (m.obj 37)) w.heap.size [i64 0, i64 0, i64 0, i64 0, .slice none 0 0] ∧ _).1
          have o0 := hob.at' 0 _ rfl
          have o1 := hob.at' 1 _ rfl
          have o2 := hob.at' 2 _ rfl
          have o3 := hob.at' 3 _ rfl
          have o4 := hob.at' 4 _ rfl
          have g0 := hob.fz 0
          have g1 := hob.fz 1
          have g2 := hob.fz 2
          have g3 := hob.fz 3
          have g4 := hob.fz 4
          clear hob
          go_wp2_with fail
          have hH5 := HH7.out.cd5 rfl (i64 0) (i64 0) (i64 0) (i64 0) (.slice none 0 0)
          generalize ((((((w6.alloc (m.obj 37)).setCell ⟨w.heap.size, 0, none⟩ (i64 0)).setCell ⟨w.heap.size, 1, none⟩ (i64 0)).setCell ⟨w.heap.size, 2, none⟩ (i64 0)).setCell ⟨w.heap.size, 3, none⟩ (i64 0)).setCell ⟨w.heap.size, 4, none⟩ (.slice none 0 0)) = w9 at hH5 ⊢
          have hob := (hH5.has 0 _ rfl : IsObj w9 w.heap.size [i64 0, i64 0, i64 0, i64 0, .slice none 0 0] ∧ _).1
          have r0 := hob.at' 0 _ rfl
          have r1 := hob.at' 1 _ rfl
          have r2 := hob.at' 2 _ rfl
          have r3 := hob.at' 3 _ rfl
          have r4 := hob.at' 4 _ rfl
          obtain ⟨i1, i2, i3, i4⟩ := HIS.out
          rcases HM6.out with ⟨hf, _⟩ | ⟨_, _, hg, r1', hr1, _⟩
          · cases hf
          · have hd : DecIs r [] ((encs ms).length : Int) 7 := .many ms m r1' i3 HN6.out (by rw [← HDR.out, i1, hr1]) hg
            have hp := DecPost.bad (w' := w9) (base := w.heap.size) t s so d r _ _ HL.out HR.out hd (by decide)
            rw [show (((encs ms).length : Int) + 4) = (at' : Int) by omega] at hp
            refine bodyPost_ret (v := .tuple #[scV 0 0 0 0 (.slice none 0 0), i64 at', i64 7]) (by simp [results, Try.results6, go_sem, r0, r1, r2, r3, r4]) rfl ⟨_, _, _, rfl, hH5.below, ?_⟩
            exact hp
        · have hn' : ((ms.length : Int) == 65536) = false := beq_false_of_ne (by omega)
          have HN6 := Lib.hid hn
          have hsb := (HH7.out.has 1 _ rfl : IsObj (w6.alloc (m.obj 37)) sb [i64 t, i64 s, i64 so, i64 d, .slice A1 ms.length cp1] ∧ _).1
          have s4 := hsb.at' 4 _ rfl
          have HW7 := Lib.hid (show (w6.alloc (m.obj 37)).heap.size = w6.heap.size + 1 by simp)
          have c0 := HMB.out.at' 0 _ rfl
          have c1 := HMB.out.at' 1 _ rfl
          have c2 := HMB.out.at' 2 _ rfl
          have c3 := HMB.out.at' 3 _ rfl
          have c4 := HMB.out.at' 4 _ rfl
          have c5 := HMB.out.at' 5 _ rfl
          have c6 := HMB.out.at' 6 _ rfl
          clear hsb hn HMB
          go_wp2_with (at_builtin; go_loud (refine list_append_grew rfl _ _ 26 rfl w.heap.size 37 _ 7 56 elem_cm (.slice A1 ms.length cp1) ms.length (flatM ms) rfl ((HH7.out.later (below_new (Below.refl _ _) (m.obj 37))).has 2 _ rfl) (some ⟨_, 0, none⟩) 1 1 m.list rfl (src7_at _ _ m (by simp)) (by unfold maxLen; have := HN6.out; omega) (by have := HN6.out; omega) (HH7.out.later (below_new (Below.refl _ _) (m.obj 37))).size ?_); intro v' w8 hG; go_loud (obtain ⟨A2, cp2, rfl⟩ := own_shape hG.own; have hH8 := (HH7.out.later (below_new (Below.refl _ _) (m.obj 37))).append 2 rfl rfl hG; have HH8 := Lib.hid hH8; have hs8 := (hH8.has 1 _ rfl : IsObj w8 sb [i64 t, i64 s, i64 so, i64 d, .slice A1 ms.length cp1] ∧ _).1; have z4 := hs8.at' 4 _ rfl; have y4 := hs8.fz 4; clear hs8 hH8 hG s4 c0 c1 c2 c3 c4 c5 c6 HH7))
          have hH9 := HH8.out.cdSet 1 rfl 4 (.slice A2 (ms.length + 1) cp2)
          obtain ⟨i1, i2, i3, i4⟩ := HIS.out
          rcases HM6.out with ⟨hf, _⟩ | ⟨_, hs2, hg, r1', hr1, ha2⟩
          · cases hf
          subst hs2
          have hlen : (ms ++ [m]).length = ms.length + 1 := by simp
          have hfl : flatM (ms ++ [m]) = flatM ms ++ m.list := by rw [flatM_append]; simp [flatM]
          have hrb : IsObj _ rb (rdL (some ⟨b, off, none⟩) l cap a2 false) := (hH9.has 3 _ rfl).1
          have hc1 := hrb.at' 1 _ rfl
          have hel := enc_len m
          have hd2 : l.drop a2 = r1' := by
            have h1 : l.drop a2 = (l.drop at').drop m.enc.length := by rw [List.drop_drop, ha2]
            rw [h1, hr1, List.drop_left]
          have hle2 := HR6.out.le
          refine ⟨⟨a2, A2, cp2, ms ++ [m], Lib.hid ⟨?_, hle2, ?_, ?_, ?_, ?_⟩⟩, ?_⟩
          · rw [hlen, hfl]
            exact hH9
          · rw [i1, hr1, encs_snoc, hd2, List.append_assoc]
          · rw [encs_snoc, List.length_append]
            omega
          · intro x hx
            rcases List.mem_append.1 hx with hx | hx
            · exact i3 x hx
            · rw [List.mem_singleton.1 hx]
              exact hg
          · have := HN6.out
            rw [hlen]
            omega
          · rw [hc1, HK1.out]
            simp only [Option.getD_some, RowKit.intOf, Int.toNat_natCast]
            have := HLE.out
            omega
    · have hge' : ¬ (at' : Int) < (l.length : Int) := by omega
      have hsb := (HHold.out.has 1 _ rfl : IsObj wr sb [i64 t, i64 s, i64 so, i64 d, .slice A1 ms.length cp1] ∧ _).1
      have s0 := hsb.at' 0 _ rfl
      have s1 := hsb.at' 1 _ rfl
      have s2 := hsb.at' 2 _ rfl
      have s3 := hsb.at' 3 _ rfl
      have s4 := hsb.at' 4 _ rfl
      have HGE := Lib.hid (show at' = l.length by omega)
      clear hsb HD HRD hge hle
      have hob := (HHold.out.has 0 _ rfl : IsObj wr w.heap.size [i64 0, i64 0, i64 0, i64 0, .slice none 0 0] ∧ _).1
      have o0 := hob.at' 0 _ rfl
      have o1 := hob.at' 1 _ rfl
      have o2 := hob.at' 2 _ rfl
      have o3 := hob.at' 3 _ rfl
      have o4 := hob.at' 4 _ rfl
      have g0 := hob.fz 0
      have g1 := hob.fz 1
      have g2 := hob.fz 2
      have g3 := hob.fz 3
      have g4 := hob.fz 4
      clear hob
      go_wp2_with fail
      have hH5 := HHold.out.cd5 rfl (i64 t) (i64 s) (i64 so) (i64 d) (.slice A1 ms.length cp1)
      generalize (((((wr.setCell ⟨w.heap.size, 0, none⟩ (i64 t)).setCell ⟨w.heap.size, 1, none⟩ (i64 s)).setCell ⟨w.heap.size, 2, none⟩ (i64 so)).setCell ⟨w.heap.size, 3, none⟩ (i64 d)).setCell ⟨w.heap.size, 4, none⟩ (.slice A1 ms.length cp1)) = w9 at hH5 ⊢
      have hob := (hH5.has 0 _ rfl : IsObj w9 w.heap.size [i64 t, i64 s, i64 so, i64 d, .slice A1 ms.length cp1] ∧ _).1
      have r0 := hob.at' 0 _ rfl
      have r1 := hob.at' 1 _ rfl
      have r2 := hob.at' 2 _ rfl
      have r3 := hob.at' 3 _ rfl
      have r4 := hob.at' 4 _ rfl
      obtain ⟨i1, i2, i3, i4⟩ := HIS.out
      have hre : r = encs ms := by rw [← HDR.out, i1, HGE.out, List.drop_length, List.append_nil]
      refine bodyPost_ret (v := .tuple #[scV t s so d (.slice A1 ms.length cp1), i64 l.length, i64 0]) (by simp [results, Try.results6, go_sem, r0, r1, r2, r3, r4]) rfl ⟨_, _, _, rfl, hH5.below, ?_⟩
      exact .ok t s so d r ms A1 cp1 HL.out HR.out (.ok ms i3 i4 hre) (hH5.has 2 _ rfl)
end Go.Proofs.Ytebgjfhaolgcjaa
