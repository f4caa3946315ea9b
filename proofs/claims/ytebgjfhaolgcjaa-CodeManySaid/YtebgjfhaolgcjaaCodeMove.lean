/-
  The contract of what reads a move. No condition but that bytes are from 0 to 255, and that there are no more than a million.
-/
import Derived.Test.YtebgjfhaolgcjaaCodeRead
import Derived.Test.YtebgjfhaolgcjaaRegionS
import Derived.Deep.DeepCutAuto
import Derived.Deep.CutBlock
namespace Go.Proofs.Ytebgjfhaolgcjaa
open Go.RowKit
set_option linter.unusedVariables false

theorem RdIn.other {w : World} {rb : Nat} {A : Option Addr} {l : List Int} {cap at' : Nat} {sh : Bool} (h : RdIn w rb A l cap at' sh) {b n : Nat} (i : Nat) (u : Value) (hb : b ≠ rb) (hn : n ≤ b) (ho : ∀ b off, A = some ⟨b, off, none⟩ → 0 < l.length → b < n) : RdIn (w.setCell ⟨b, i, none⟩ u) rb A l cap at' sh :=
  h.keep (T := (· = b)) (Keep.setCell (T := (· = b)) (Keep.refl _ _) ⟨b, i, none⟩ rfl u) (fun e => hb e.symm) (fun b' off hA hp e => by have := ho b' off hA hp; omega)
/-- Where the switch's ways meet. -/
structure MvAt (w wx : World) (rb mb ob : Nat) (A : Option Addr) (l : List Int) (cap at' : Nat) (m : CM) (a3 : Nat) (s3 : Bool) : Prop where
  keep : Keep (fun q => q = rb) w wx
  rd : RdIn wx rb A l cap a3 s3
  obj : IsObj wx mb [i64 m.k, i64 m.who, i64 m.ck, i64 m.ce, u64 m.v, i64 m.st, i64 m.n]
  res : IsObj wx ob [i64 0, i64 0, i64 0, i64 0, u64 0, i64 0, i64 0]
  is : (s3 = true ∧ rdMove (l.drop at') = none) ∨ (s3 = false ∧ ∃ n, rdMove (l.drop at') = some (m, n) ∧ a3 = at' + n)

/-- What comes of reading a move: one that is right, or there is none. -/
def MoveIs (w : World) (rb : Nat) (A : Option Addr) (l : List Int) (cap at' : Nat) (m : CM) (ok : Bool) (w' : World) : Prop :=
  Keep (· = rb) w w' ∧ ∃ a2 s2, RdIn w' rb A l cap a2 s2 ∧ ((ok = false ∧ ∀ (m' : CM) (r : List Int), m'.Good → l.drop at' ≠ m'.enc ++ r) ∨ (ok = true ∧ s2 = false ∧ m.Good ∧ ∃ r, l.drop at' = m.enc ++ r ∧ a2 = at' + m.enc.length))

set_option maxRecDepth 100000 in
set_option maxHeartbeats 8000000 in
theorem rmove_any (rb : Nat) (A : Option Addr) (l : List Int) (cap at' : Nat) (w : World) (h : RdIn w rb A l cap at' false) :
    Calls Try.prog 11 #[pt rb] w fun r w' => ∃ m ok, r = .returned (.tuple #[m.val, .bool ok]) ∧ MoveIs w rb A l cap at' m ok w' := by
  have hk0 : Keep (· = rb) w (w.alloc (.cells #[.int .i64 0, .int .i64 0, .int .i64 0, .int .i64 0, .int .u64 0, .int .i64 0, .int .i64 0] 37)) := Keep.of_below (below_new (Below.refl _ _) _)
  have H := Lib.hid (h.later (below_new (Below.refl _ _) (.cells #[.int .i64 0, .int .i64 0, .int .i64 0, .int .i64 0, .int .u64 0, .int .i64 0, .int .i64 0] 37)))
  have HK := Lib.hid hk0
  have HO := Lib.hid (IsObj.made w [.int .i64 0, .int .i64 0, .int .i64 0, .int .i64 0, .int .u64 0, .int .i64 0, .int .i64 0] 37)
  have HLT := Lib.hid h.obj.lt
  have HOLD := Lib.hid h.old
  have HBY := Lib.hid h.byt
  clear h hk0
  go_enter Try.func11, Try.ntmps11
  go_wp2_with fail
  generalize (w.alloc (.cells #[.int .i64 0, .int .i64 0, .int .i64 0, .int .i64 0, .int .u64 0, .int .i64 0, .int .i64 0] 37)) = w1 at H HK HO ⊢
  refine (small_any rb A l cap at' false _ H.out).mono ?_
  rintro r w2 ⟨k, rfl, hN⟩
  obtain ⟨k2, hN2⟩ := hN
  have hne : ∀ q, q = rb → q ≠ w.heap.size := fun q hq => by have := HLT.out; omega
  have HK2 := Lib.hid (HK.out.trans k2)
  have HO2 := Lib.hid (HO.out.keep (T := (· = rb)) k2 (fun e => hne _ e rfl))
  have HNE := Lib.hid hne
  obtain ⟨a2, s2, hR, hW⟩ : ∃ a2 s2, RdIn w2 rb A l cap a2 s2 ∧ ((s2 = true ∧ l.drop at' = []) ∨ (s2 = false ∧ ∃ r, l.drop at' = k :: r ∧ l.drop (at' + 1) = r ∧ a2 = at' + 1)) := by
    rcases hN2 with ⟨h1, h2, h3⟩ | ⟨h1, h2, h3⟩
    · exact ⟨_, _, h3, .inl ⟨rfl, List.drop_of_length_le (by omega)⟩⟩
    · have hx : at' < l.length := by omega
      refine ⟨_, _, h3, .inr ⟨rfl, l.drop (at' + 1), ?_, rfl, rfl⟩⟩
      rw [h2, List.drop_eq_getElem_cons hx]
      show l[at'] :: _ = (l[at'] + 256 * un8 []) :: _
      rw [show un8 [] = 0 from rfl, Int.mul_zero, Int.add_zero]
  have HR := Lib.hid hR
  have HW := Lib.hid hW
  clear hR hW hN2 k2 hne H HK HO
  have HC := Lib.hid (IsObj.made w2 [.int .i64 k, .int .i64 0, .int .i64 0, .int .i64 0, .int .u64 0, .int .i64 0, .int .i64 0] 37)
  have hbn := below_new (Below.refl w2.heap.size w2) (.cells #[.int .i64 k, .int .i64 0, .int .i64 0, .int .i64 0, .int .u64 0, .int .i64 0, .int .i64 0] 37)
  have HR3 := Lib.hid (HR.out.later hbn)
  have HO3 := Lib.hid (HO2.out.later hbn)
  have HK3 := Lib.hid (HK2.out.trans (Keep.of_below hbn))
  have HLT3 := Lib.hid (show rb < w2.heap.size ∧ w.heap.size < w2.heap.size from ⟨HR.out.obj.lt, HO2.out.lt⟩)
  clear hbn HR HK2 HO2
  go_upto_block 0 with fail
  generalize (w2.alloc (.cells #[.int .i64 k, .int .i64 0, .int .i64 0, .int .i64 0, .int .u64 0, .int .i64 0, .int .i64 0] 37)) = w3 at HC HR3 HO3 HK3 ⊢
  go_cut [] (fun wx => ∃ (m : CM) (a3 : Nat) (s3 : Bool), Hid (MvAt w wx rb w2.heap.size w.heap.size A l cap at' m a3 s3))
  case first =>
    by_cases k0 : k = 0
    · subst k0
      go_wp2_with fail
      refine (small_any rb A l cap a2 s2 _ HR3.out).mono ?_
      rintro r w4 ⟨who, rfl, k4, hN4⟩
      have HK4 := Lib.hid (HK3.out.trans k4)
      have HO4 := Lib.hid (HO3.out.keep (T := (· = rb)) k4 (fun e => HNE.out _ e rfl))
      have HC4 := Lib.hid (HC.out.keep (T := (· = rb)) k4 (fun e => by have := HLT3.out; omega))
      have HN4 := Lib.hid hN4
      clear k4 hN4 HK3 HO3 HC HR3
      have f1 := HC4.out.fz 1
      have q1 := HC4.out.at' 1 _ rfl
      have hl1 := HC4.out.lt
      go_wp2_with fail
      have HC5 := Lib.hid (HC4.out.set 1 (i64 who))
      have HO5 := Lib.hid (HO4.out.other (a := w2.heap.size) 1 (i64 who) (by have := HLT3.out; omega))
      have HK5 := Lib.hid (HK4.out.then' (T' := (· = w2.heap.size)) (Keep.setCell (T := (· = w2.heap.size)) (Keep.refl _ _) ⟨w2.heap.size, 1, none⟩ rfl (i64 who)) (fun i hi => .inr (by have := HLT3.out; omega)))
      obtain ⟨a5, s5, hR5, hW5⟩ : ∃ a5 s5, RdIn (w4.setCell ⟨w2.heap.size, 1, none⟩ (i64 who)) rb A l cap a5 s5 ∧ ((s5 = true ∧ rdMove (l.drop at') = none) ∨ (s5 = false ∧ l.drop at' = 0 :: who :: l.drop a5 ∧ a5 = at' + 2)) := by
        have oth : ∀ {a s}, RdIn w4 rb A l cap a s → RdIn (w4.setCell ⟨w2.heap.size, 1, none⟩ (i64 who)) rb A l cap a s := fun {a s} hr => hr.other (n := w.heap.size) 1 _ (by have := HLT3.out; omega) (by have := HLT3.out; omega) HOLD.out
        rcases HW.out with ⟨hs, hd⟩ | ⟨hs, r, hd, hr, ha⟩
        · subst hs
          rcases HN4.out with ⟨n1, n2, n3⟩ | ⟨n1, n2, n3⟩
          · exact ⟨_, _, oth n3, .inl ⟨rfl, by rw [hd]; rfl⟩⟩
          · exact ⟨_, _, oth n3, .inl ⟨rfl, by rw [hd]; rfl⟩⟩
        · subst hs ha
          rcases HN4.out with ⟨n1, n2, n3⟩ | ⟨n1, n2, n3⟩
          · exact ⟨_, _, oth n3, .inl ⟨rfl, by rw [hd, ← hr, List.drop_of_length_le (by omega)]; rfl⟩⟩
          · have hx : at' + 1 < l.length := by omega
            refine ⟨_, _, oth n3, .inr ⟨rfl, ?_, rfl⟩⟩
            rw [hd, ← hr, n2, List.drop_eq_getElem_cons hx]
            show 0 :: l[at' + 1] :: _ = 0 :: (l[at' + 1] + 256 * un8 []) :: _
            rw [show un8 [] = 0 from rfl, Int.mul_zero, Int.add_zero]
      have HR5 := Lib.hid hR5
      have HW5 := Lib.hid hW5
      clear hR5 hW5 HC4 HO4 HK4 HN4 HW
      generalize (w4.setCell ⟨w2.heap.size, 1, none⟩ (i64 who)) = w5 at HC5 HO5 HK5 HR5 ⊢
      refine (rcall_any rb A l cap a5 s5 _ HR5.out).mono ?_
      rintro r w6 ⟨ck, ce, v, s, rfl, k6, a6, s6, hR6, hN6⟩
      have HK6 := Lib.hid (HK5.out.trans k6)
      have HO6 := Lib.hid (HO5.out.keep (T := (· = rb)) k6 (fun e => HNE.out _ e rfl))
      have HC6 := Lib.hid (HC5.out.keep (T := (· = rb)) k6 (fun e => by have := HLT3.out; omega))
      have HR6 := Lib.hid hR6
      have HN6 := Lib.hid hN6
      clear k6 hR6 hN6 HK5 HO5 HC5 HR5
      have f2 := HC6.out.fz 2
      have f3 := HC6.out.fz 3
      have f4 := HC6.out.fz 4
      have f5 := HC6.out.fz 5
      have q2 := HC6.out.at' 2 _ rfl
      have q3 := HC6.out.at' 3 _ rfl
      have q4 := HC6.out.at' 4 _ rfl
      have q5 := HC6.out.at' 5 _ rfl
      go_wp2_with fail
      go_meet
      refine ⟨⟨0, who, ck, ce, v, s, 0⟩, a6, s6, Lib.hid ⟨?_, ?_, ?_, ?_, ?_⟩⟩
      · exact HK6.out.then' (T' := (· = w2.heap.size)) (Keep.setCell (T := (· = w2.heap.size)) (Keep.setCell (T := (· = w2.heap.size)) (Keep.setCell (T := (· = w2.heap.size)) (Keep.setCell (T := (· = w2.heap.size)) (Keep.refl _ _) ⟨w2.heap.size, 2, none⟩ rfl _) ⟨w2.heap.size, 3, none⟩ rfl _) ⟨w2.heap.size, 4, none⟩ rfl _) ⟨w2.heap.size, 5, none⟩ rfl _) (fun i hi => .inr (by have := HLT3.out; omega))
      · have e1 : w2.heap.size ≠ rb := by have := HLT3.out; omega
        have e2 : w.heap.size ≤ w2.heap.size := by have := HLT3.out; omega
        exact (((HR6.out.other (n := w.heap.size) 2 _ e1 e2 HOLD.out).other (n := w.heap.size) 3 _ e1 e2 HOLD.out).other (n := w.heap.size) 4 _ e1 e2 HOLD.out).other (n := w.heap.size) 5 _ e1 e2 HOLD.out
      · exact ((((HC6.out.set 2 (i64 ck)).set 3 (i64 ce)).set 4 (u64 v)).set 5 (i64 s))
      · have e3 : w2.heap.size ≠ w.heap.size := by have := HLT3.out; omega
        exact (((HO6.out.other (a := w2.heap.size) 2 _ e3).other (a := w2.heap.size) 3 _ e3).other (a := w2.heap.size) 4 _ e3).other (a := w2.heap.size) 5 _ e3
      · rcases HW5.out with ⟨hs, hn⟩ | ⟨hs, hd, ha⟩
        · subst hs
          rcases HN6.out with ⟨n1, _⟩ | ⟨n1, _⟩
          · exact .inl ⟨n1, hn⟩
          · exact .inl ⟨n1, hn⟩
        · subst hs ha
          rcases HN6.out with ⟨n1, n2⟩ | ⟨n1, n, n2, n3⟩
          · refine .inl ⟨n1, ?_⟩
            rcases n2 with n2 | n2
            · cases n2
            · rw [hd]
              show (match rdCall (l.drop (at' + 2)) with
                | none => none
                | some (ck, ce, v, s, n) => some ((⟨0, who, ck, ce, v, s, 0⟩ : CM), n + 2)) = none
              rw [n2]
          · refine .inr ⟨n1, n + 2, ?_, by omega⟩
            rw [hd]
            show (match rdCall (l.drop (at' + 2)) with
              | none => none
              | some (ck, ce, v, s, n) => some ((⟨0, who, ck, ce, v, s, 0⟩ : CM), n + 2)) = _
            rw [n2]
    · have p0 : (k == 0) = false := beq_false_of_ne k0
      by_cases k1 : k = 1
      · subst k1
        clear p0
        go_wp2_with fail
        refine (small_any rb A l cap a2 s2 _ HR3.out).mono ?_
        rintro r w4 ⟨who, rfl, k4, hN4⟩
        have HK4 := Lib.hid (HK3.out.trans k4)
        have HO4 := Lib.hid (HO3.out.keep (T := (· = rb)) k4 (fun e => HNE.out _ e rfl))
        have HC4 := Lib.hid (HC.out.keep (T := (· = rb)) k4 (fun e => by have := HLT3.out; omega))
        have HN4 := Lib.hid hN4
        clear k4 hN4 HK3 HO3 HC HR3
        have f1 := HC4.out.fz 1
        have q1 := HC4.out.at' 1 _ rfl
        have hl1 := HC4.out.lt
        go_wp2_with fail
        go_meet
        have oth : ∀ {a s}, RdIn w4 rb A l cap a s → RdIn (w4.setCell ⟨w2.heap.size, 1, none⟩ (i64 who)) rb A l cap a s := fun {a s} hr => hr.other (n := w.heap.size) 1 _ (by have := HLT3.out; omega) (by have := HLT3.out; omega) HOLD.out
        have hK5 := HK4.out.then' (T' := (· = w2.heap.size)) (Keep.setCell (T := (· = w2.heap.size)) (Keep.refl _ _) ⟨w2.heap.size, 1, none⟩ rfl (i64 who)) (fun i hi => .inr (by have := HLT3.out; omega))
        have hC5 := HC4.out.set 1 (i64 who)
        have hO5 := HO4.out.other (a := w2.heap.size) 1 (i64 who) (by have := HLT3.out; omega)
        rcases HW.out with ⟨hs, hd⟩ | ⟨hs, r, hd, hr, ha⟩
        · subst hs
          rcases HN4.out with ⟨n1, n2, n3⟩ | ⟨n1, n2, n3⟩
          · exact ⟨⟨1, who, 0, 0, 0, 0, 0⟩, _, _, Lib.hid ⟨hK5, oth n3, hC5, hO5, .inl ⟨rfl, by rw [hd]; rfl⟩⟩⟩
          · exact ⟨⟨1, who, 0, 0, 0, 0, 0⟩, _, _, Lib.hid ⟨hK5, oth n3, hC5, hO5, .inl ⟨rfl, by rw [hd]; rfl⟩⟩⟩
        · subst hs ha
          rcases HN4.out with ⟨n1, n2, n3⟩ | ⟨n1, n2, n3⟩
          · refine ⟨⟨1, who, 0, 0, 0, 0, 0⟩, _, _, Lib.hid ⟨hK5, oth n3, hC5, hO5, .inl ⟨rfl, ?_⟩⟩⟩
            rw [hd, ← hr, List.drop_of_length_le (by omega)]
            rfl
          · refine ⟨⟨1, who, 0, 0, 0, 0, 0⟩, _, _, Lib.hid ⟨hK5, oth n3, hC5, hO5, .inr ⟨rfl, 2, ?_, by omega⟩⟩⟩
            have hx : at' + 1 < l.length := by omega
            rw [hd, ← hr, n2, List.drop_eq_getElem_cons hx]
            show some ((⟨1, l[at' + 1], 0, 0, 0, 0, 0⟩ : CM), 2) = some ((⟨1, l[at' + 1] + 256 * un8 [], 0, 0, 0, 0, 0⟩ : CM), 2)
            rw [show un8 [] = 0 from rfl, Int.mul_zero, Int.add_zero]
      · have p1 : (k == 1) = false := beq_false_of_ne k1
        by_cases k2 : k = 2
        · subst k2
          clear p0 p1
          go_wp2_with fail
          refine (number_any rb A l cap a2 2 s2 _ HR3.out (by decide)).mono ?_
          rintro r w4 ⟨who, rfl, k4, hN4⟩
          have hw64 : IntKind.i64.wrap who = who := by
            rcases hN4 with ⟨_, rfl, _⟩ | ⟨n1, n2, _⟩
            · rfl
            · have h1 := un8_lt HBY.out a2 2 n1
              rw [← n2, show (256 : Int) ^ 2 = 65536 by decide] at h1
              exact IntWalk.i64_in _ (by omega)
          have HK4 := Lib.hid (HK3.out.trans k4)
          have HO4 := Lib.hid (HO3.out.keep (T := (· = rb)) k4 (fun e => HNE.out _ e rfl))
          have HC4 := Lib.hid (HC.out.keep (T := (· = rb)) k4 (fun e => by have := HLT3.out; omega))
          have HN4 := Lib.hid hN4
          clear k4 hN4 HK3 HO3 HC HR3
          have f1 := HC4.out.fz 6
          have q1 := HC4.out.at' 6 _ rfl
          have hl1 := HC4.out.lt
          go_wp2_with fail
          go_meet
          have oth : ∀ {a s}, RdIn w4 rb A l cap a s → RdIn (w4.setCell ⟨w2.heap.size, 6, none⟩ (i64 who)) rb A l cap a s := fun {a s} hr => hr.other (n := w.heap.size) 6 _ (by have := HLT3.out; omega) (by have := HLT3.out; omega) HOLD.out
          have hK5 := HK4.out.then' (T' := (· = w2.heap.size)) (Keep.setCell (T := (· = w2.heap.size)) (Keep.refl _ _) ⟨w2.heap.size, 6, none⟩ rfl (i64 who)) (fun i hi => .inr (by have := HLT3.out; omega))
          have hC5 := HC4.out.set 6 (i64 who)
          have hO5 := HO4.out.other (a := w2.heap.size) 6 (i64 who) (by have := HLT3.out; omega)
          rcases HW.out with ⟨hs, hd⟩ | ⟨hs, r, hd, hr, ha⟩
          · subst hs
            rcases HN4.out with ⟨n1, n2, n3⟩ | ⟨n1, n2, n3⟩
            · exact ⟨⟨2, 0, 0, 0, 0, 0, who⟩, _, _, Lib.hid ⟨hK5, oth n3, hC5, hO5, .inl ⟨rfl, by rw [hd]; rfl⟩⟩⟩
            · exact ⟨⟨2, 0, 0, 0, 0, 0, who⟩, _, _, Lib.hid ⟨hK5, oth n3, hC5, hO5, .inl ⟨rfl, by rw [hd]; rfl⟩⟩⟩
          · subst hs ha
            rcases HN4.out with ⟨n1, n2, n3⟩ | ⟨n1, n2, n3⟩
            · refine ⟨⟨2, 0, 0, 0, 0, 0, who⟩, _, _, Lib.hid ⟨hK5, oth n3, hC5, hO5, .inl ⟨rfl, ?_⟩⟩⟩
              rw [hd, ← hr]
              show (if 2 ≤ (l.drop (at' + 1)).length then some ((⟨2, 0, 0, 0, 0, 0, un8 ((l.drop (at' + 1)).take 2)⟩ : CM), 3) else none) = none
              rw [if_neg (by rw [List.length_drop]; omega)]
            · refine ⟨⟨2, 0, 0, 0, 0, 0, who⟩, _, _, Lib.hid ⟨hK5, oth n3, hC5, hO5, .inr ⟨rfl, 3, ?_, by omega⟩⟩⟩
              rw [hd, ← hr, n2]
              show (if 2 ≤ (l.drop (at' + 1)).length then some ((⟨2, 0, 0, 0, 0, 0, un8 ((l.drop (at' + 1)).take 2)⟩ : CM), 3) else none) = _
              rw [if_pos (by rw [List.length_drop]; omega)]
        · have p2 : (k == 2) = false := beq_false_of_ne k2
          have K0 := Lib.hid (show ¬ k = 0 ∧ ¬ k = 1 ∧ ¬ k = 2 from ⟨k0, k1, k2⟩)
          clear k0 k1 k2
          go_wp2_with fail
          go_meet
          refine ⟨⟨k, 0, 0, 0, 0, 0, 0⟩, a2, s2, Lib.hid ⟨HK3.out, HR3.out, HC.out, HO3.out, ?_⟩⟩
          rcases HW.out with ⟨hs, hd⟩ | ⟨hs, r, hd, hr, ha⟩
          · exact .inl ⟨hs, by rw [hd]; rfl⟩
          · refine .inr ⟨hs, 1, ?_, ha⟩
            rw [hd]
            obtain ⟨e0, e1, e2⟩ := K0.out
            unfold rdMove
            dsimp only
            rw [if_neg e0, if_neg e1, if_neg e2]
  case rest =>
    clear HC HR3 HO3 HK3 HW
    obtain ⟨m, a3, s3, HM⟩ := hcut
    have hc : ∀ wx, MvAt w wx rb w2.heap.size w.heap.size A l cap at' m a3 s3 → wx.cell? ⟨w2.heap.size, 0, none⟩ = some (i64 m.k) ∧ wx.cell? ⟨w2.heap.size, 1, none⟩ = some (i64 m.who) ∧ wx.cell? ⟨w2.heap.size, 2, none⟩ = some (i64 m.ck) ∧ wx.cell? ⟨w2.heap.size, 3, none⟩ = some (i64 m.ce) ∧ wx.cell? ⟨w2.heap.size, 4, none⟩ = some (u64 m.v) ∧ wx.cell? ⟨w2.heap.size, 5, none⟩ = some (i64 m.st) ∧ wx.cell? ⟨w2.heap.size, 6, none⟩ = some (i64 m.n) ∧ wx.cell? ⟨rb, 2, none⟩ = some (.bool s3) := fun wx h =>
      ⟨h.obj.at' 0 _ rfl, h.obj.at' 1 _ rfl, h.obj.at' 2 _ rfl, h.obj.at' 3 _ rfl, h.obj.at' 4 _ rfl, h.obj.at' 5 _ rfl, h.obj.at' 6 _ rfl, h.rd.obj.at' 2 _ rfl⟩
    have later : ∀ wx, Below wc.heap.size wc wx → MvAt w wx rb w2.heap.size w.heap.size A l cap at' m a3 s3 := fun wx hb => ⟨HM.out.keep.trans (Keep.of_below hb), HM.out.rd.later hb, HM.out.obj.later hb, HM.out.res.later hb, HM.out.is⟩
    have HC := Lib.hid hc
    have HL := Lib.hid later
    clear hc later
    go_wp2_with fail
    cases s3 with
    | true =>
      refine wp_region_seqS ((fun wx => wx.cell? ⟨w2.heap.size, 0, none⟩ = some (i64 m.k) ∧ wx.cell? ⟨w2.heap.size, 1, none⟩ = some (i64 m.who) ∧ wx.cell? ⟨w2.heap.size, 2, none⟩ = some (i64 m.ck) ∧ wx.cell? ⟨w2.heap.size, 3, none⟩ = some (i64 m.ce) ∧ wx.cell? ⟨w2.heap.size, 4, none⟩ = some (u64 m.v) ∧ wx.cell? ⟨w2.heap.size, 5, none⟩ = some (i64 m.st) ∧ wx.cell? ⟨w2.heap.size, 6, none⟩ = some (i64 m.n) ∧ wx.cell? ⟨rb, 2, none⟩ = some (.bool true))) ((0, true) :: (1, true) :: (2, true) :: (3, true) :: (4, true) :: (5, true) :: (6, true) :: (7, true) :: (8, false) :: (9, true) :: (10, false) :: (11, true) :: []) (by kernel_rfl) (by kernel_rfl) (by kernel_rfl) (by decide) (fun _ _ _ _ _ h => h) (HC.out _ (HL.out _ (Below.refl _ _).drew)) ?_
      have HBL := Lib.hid (Below.refl wc.heap.size wc).drew
      generalize wc.drew = wb at HBL ⊢
      repeat (first | (refine seq_take (v := ?_) rfl ?_ ?_ ?_; rotate_left 1; rfl; (focus (intro wS hSw; obtain ⟨c0, c1, c2, c3, c4, c5, c6, d2⟩ := hSw; go_simp; first | done | with_reducible rfl)); (try simp only [Act.put, List.setIfInBounds_toArray, List.set_cons_zero, List.set_cons_succ])) | (refine seq_skip rfl ?_ ?_; rfl; (try simp only [Act.put, List.setIfInBounds_toArray, List.set_cons_zero, List.set_cons_succ])))
      refine seq_run rfl (fun K hK => ?_)
      go_simp
      refine hK.out _ _ (HC.out _ (HL.out _ HBL.out)) (fun _ => ?_)
      (try simp only [Act.put, List.setIfInBounds_toArray, List.set_cons_zero, List.set_cons_succ])
      clear hK K
      repeat (first | (refine seq_take (v := ?_) rfl ?_ ?_ ?_; rotate_left 1; rfl; (focus (intro wS hSw; obtain ⟨c0, c1, c2, c3, c4, c5, c6, d2⟩ := hSw; go_simp; first | done | with_reducible rfl)); (try simp only [Act.put, List.setIfInBounds_toArray, List.set_cons_zero, List.set_cons_succ])) | (refine seq_skip rfl ?_ ?_; rfl; (try simp only [Act.put, List.setIfInBounds_toArray, List.set_cons_zero, List.set_cons_succ])))
      have HR0 := Lib.hid (HL.out _ HBL.out).res
      have oo := HR0.out
      have o0 := oo.at' 0 _ rfl
      have o1 := oo.at' 1 _ rfl
      have o2 := oo.at' 2 _ rfl
      have o3 := oo.at' 3 _ rfl
      have o4 := oo.at' 4 _ rfl
      have o5 := oo.at' 5 _ rfl
      have o6 := oo.at' 6 _ rfl
      have g0 := oo.fz 0
      have g1 := oo.fz 1
      have g2 := oo.fz 2
      have g3 := oo.fz 3
      have g4 := oo.fz 4
      have g5 := oo.fz 5
      have g6 := oo.fz 6
      have hne1 : w.heap.size ≠ w2.heap.size := by have := HLT3.out; omega
      have hne2 : w.heap.size ≠ rb := by have := HLT.out; omega
      clear oo
      refine seq_run rfl (fun K hK => ?_)
      go_simp
      have hk5 : Keep (· = w.heap.size) wb (((((((wb.setCell ⟨w.heap.size, 0, none⟩ (i64 m.k)).setCell ⟨w.heap.size, 1, none⟩ (i64 m.who)).setCell ⟨w.heap.size, 2, none⟩ (i64 m.ck)).setCell ⟨w.heap.size, 3, none⟩ (i64 m.ce)).setCell ⟨w.heap.size, 4, none⟩ (u64 m.v)).setCell ⟨w.heap.size, 5, none⟩ (i64 m.st)).setCell ⟨w.heap.size, 6, none⟩ (i64 m.n)) :=
        Keep.setCell (T := (· = w.heap.size)) (Keep.setCell (T := (· = w.heap.size)) (Keep.setCell (T := (· = w.heap.size)) (Keep.setCell (T := (· = w.heap.size)) (Keep.setCell (T := (· = w.heap.size)) (Keep.setCell (T := (· = w.heap.size)) (Keep.setCell (T := (· = w.heap.size)) (Keep.refl _ _) ⟨w.heap.size, 0, none⟩ rfl _) ⟨w.heap.size, 1, none⟩ rfl _) ⟨w.heap.size, 2, none⟩ rfl _) ⟨w.heap.size, 3, none⟩ rfl _) ⟨w.heap.size, 4, none⟩ rfl _) ⟨w.heap.size, 5, none⟩ rfl _) ⟨w.heap.size, 6, none⟩ rfl _
      have ho5 := (((((((HR0.out.set 0 (i64 m.k)).set 1 (i64 m.who)).set 2 (i64 m.ck)).set 3 (i64 m.ce)).set 4 (u64 m.v)).set 5 (i64 m.st)).set 6 (i64 m.n))
      generalize (((((((wb.setCell ⟨w.heap.size, 0, none⟩ (i64 m.k)).setCell ⟨w.heap.size, 1, none⟩ (i64 m.who)).setCell ⟨w.heap.size, 2, none⟩ (i64 m.ck)).setCell ⟨w.heap.size, 3, none⟩ (i64 m.ce)).setCell ⟨w.heap.size, 4, none⟩ (u64 m.v)).setCell ⟨w.heap.size, 5, none⟩ (i64 m.st)).setCell ⟨w.heap.size, 6, none⟩ (i64 m.n)) = w5 at hk5 ho5 ⊢
      have HO5 := Lib.hid ho5
      have HK5 := Lib.hid hk5
      have hrd := (HL.out _ HBL.out).rd.keep hk5 (fun e => hne2 e.symm) (fun b off hA hp e => by have := HOLD.out b off hA hp; omega)
      have hob := (HL.out _ HBL.out).obj.keep hk5 (fun e => hne1 e.symm)
      have HRD := Lib.hid hrd
      have HS5 := Lib.hid (show _ ∧ _ ∧ _ ∧ _ ∧ _ ∧ _ ∧ _ ∧ _ from ⟨hob.at' 0 _ rfl, hob.at' 1 _ rfl, hob.at' 2 _ rfl, hob.at' 3 _ rfl, hob.at' 4 _ rfl, hob.at' 5 _ rfl, hob.at' 6 _ rfl, hrd.obj.at' 2 _ rfl⟩)
      clear hk5 ho5 hrd hob o0 o1 o2 o3 o4 o5 o6 g0 g1 g2 g3 g4 g5 g6
      refine hK.out _ _ (HS5.out) (fun _ => ?_)
      (try simp only [Act.put, List.setIfInBounds_toArray, List.set_cons_zero, List.set_cons_succ])
      clear hK K
      repeat (first | (refine seq_take (v := ?_) rfl ?_ ?_ ?_; rotate_left 1; rfl; (focus (intro wS hSw; obtain ⟨c0, c1, c2, c3, c4, c5, c6, d2⟩ := hSw; go_simp; first | done | with_reducible rfl)); (try simp only [Act.put, List.setIfInBounds_toArray, List.set_cons_zero, List.set_cons_succ])) | (refine seq_skip rfl ?_ ?_; rfl; (try simp only [Act.put, List.setIfInBounds_toArray, List.set_cons_zero, List.set_cons_succ])))
      refine seq_done ?_
      go_wp2_with fail
      have r0 := HO5.out.at' 0 _ rfl
      have r1 := HO5.out.at' 1 _ rfl
      have r2 := HO5.out.at' 2 _ rfl
      have r3 := HO5.out.at' 3 _ rfl
      have r4 := HO5.out.at' 4 _ rfl
      have r5 := HO5.out.at' 5 _ rfl
      have r6 := HO5.out.at' 6 _ rfl
      refine bodyPost_ret (v := .tuple #[m.val, .bool false]) (by simp [results, Try.results11, go_sem, r0, r1, r2, r3, r4, r5, r6]) rfl ⟨m, false, rfl, (HL.out _ HBL.out).keep.then' HK5.out (fun i hi => .inr (by omega)), a3, _, HRD.out, ?_⟩
      rcases HM.out.is with ⟨_, hn⟩ | ⟨hn, _⟩
      · refine .inl ⟨rfl, fun m' r hg he => ?_⟩
        rw [he, enc_rdMove hg] at hn
        cases hn
      · cases hn
    | false =>
      by_cases hmr : m.Right
      case pos =>
        have HMR := Lib.hid hmr
        have hdec : decide m.Right = true := decide_eq_true hmr
        clear hmr
        refine wp_region_seqS ((fun wx => wx.cell? ⟨w2.heap.size, 0, none⟩ = some (i64 m.k) ∧ wx.cell? ⟨w2.heap.size, 1, none⟩ = some (i64 m.who) ∧ wx.cell? ⟨w2.heap.size, 2, none⟩ = some (i64 m.ck) ∧ wx.cell? ⟨w2.heap.size, 3, none⟩ = some (i64 m.ce) ∧ wx.cell? ⟨w2.heap.size, 4, none⟩ = some (u64 m.v) ∧ wx.cell? ⟨w2.heap.size, 5, none⟩ = some (i64 m.st) ∧ wx.cell? ⟨w2.heap.size, 6, none⟩ = some (i64 m.n) ∧ wx.cell? ⟨rb, 2, none⟩ = some (.bool false))) ((0, true) :: (1, true) :: (2, true) :: (3, true) :: (4, true) :: (5, true) :: (6, true) :: (7, true) :: (8, false) :: (9, true) :: (10, false) :: (11, true) :: []) (by kernel_rfl) (by kernel_rfl) (by kernel_rfl) (by decide) (fun _ _ _ _ _ h => h) (HC.out _ (HL.out _ (Below.refl _ _).drew)) ?_
        repeat (first | (refine seq_take (v := ?_) rfl ?_ ?_ ?_; rotate_left 1; rfl; (focus (intro wS hSw; obtain ⟨c0, c1, c2, c3, c4, c5, c6, d2⟩ := hSw; go_simp; first | done | with_reducible rfl)); (try simp only [Act.put, List.setIfInBounds_toArray, List.set_cons_zero, List.set_cons_succ])) | (refine seq_skip rfl ?_ ?_; rfl; (try simp only [Act.put, List.setIfInBounds_toArray, List.set_cons_zero, List.set_cons_succ])))
        refine seq_run rfl (fun K hK => ?_)
        go_simp
        go_at_call 9
        refine (mright_any m _).mono ?_
        rintro r wb ⟨rfl, hb⟩
        (try go_wp2_with fail)
        have HBL := Lib.hid (below_step (Below.refl wc.heap.size wc).drew hb)
        clear hb
        refine hK.out _ _ (HC.out _ (HL.out _ HBL.out)) (fun _ => ?_)
        (try simp only [Act.put, List.setIfInBounds_toArray, List.set_cons_zero, List.set_cons_succ])
        clear hK K
        repeat (first | (refine seq_take (v := ?_) rfl ?_ ?_ ?_; rotate_left 1; rfl; (focus (intro wS hSw; obtain ⟨c0, c1, c2, c3, c4, c5, c6, d2⟩ := hSw; go_simp; first | done | with_reducible rfl)); (try simp only [Act.put, List.setIfInBounds_toArray, List.set_cons_zero, List.set_cons_succ])) | (refine seq_skip rfl ?_ ?_; rfl; (try simp only [Act.put, List.setIfInBounds_toArray, List.set_cons_zero, List.set_cons_succ])))
        have HR0 := Lib.hid (HL.out _ HBL.out).res
        have oo := HR0.out
        have o0 := oo.at' 0 _ rfl
        have o1 := oo.at' 1 _ rfl
        have o2 := oo.at' 2 _ rfl
        have o3 := oo.at' 3 _ rfl
        have o4 := oo.at' 4 _ rfl
        have o5 := oo.at' 5 _ rfl
        have o6 := oo.at' 6 _ rfl
        have g0 := oo.fz 0
        have g1 := oo.fz 1
        have g2 := oo.fz 2
        have g3 := oo.fz 3
        have g4 := oo.fz 4
        have g5 := oo.fz 5
        have g6 := oo.fz 6
        have hne1 : w.heap.size ≠ w2.heap.size := by have := HLT3.out; omega
        have hne2 : w.heap.size ≠ rb := by have := HLT.out; omega
        clear oo
        refine seq_run rfl (fun K hK => ?_)
        go_simp
        have hk5 : Keep (· = w.heap.size) wb (((((((wb.setCell ⟨w.heap.size, 0, none⟩ (i64 m.k)).setCell ⟨w.heap.size, 1, none⟩ (i64 m.who)).setCell ⟨w.heap.size, 2, none⟩ (i64 m.ck)).setCell ⟨w.heap.size, 3, none⟩ (i64 m.ce)).setCell ⟨w.heap.size, 4, none⟩ (u64 m.v)).setCell ⟨w.heap.size, 5, none⟩ (i64 m.st)).setCell ⟨w.heap.size, 6, none⟩ (i64 m.n)) :=
          Keep.setCell (T := (· = w.heap.size)) (Keep.setCell (T := (· = w.heap.size)) (Keep.setCell (T := (· = w.heap.size)) (Keep.setCell (T := (· = w.heap.size)) (Keep.setCell (T := (· = w.heap.size)) (Keep.setCell (T := (· = w.heap.size)) (Keep.setCell (T := (· = w.heap.size)) (Keep.refl _ _) ⟨w.heap.size, 0, none⟩ rfl _) ⟨w.heap.size, 1, none⟩ rfl _) ⟨w.heap.size, 2, none⟩ rfl _) ⟨w.heap.size, 3, none⟩ rfl _) ⟨w.heap.size, 4, none⟩ rfl _) ⟨w.heap.size, 5, none⟩ rfl _) ⟨w.heap.size, 6, none⟩ rfl _
        have ho5 := (((((((HR0.out.set 0 (i64 m.k)).set 1 (i64 m.who)).set 2 (i64 m.ck)).set 3 (i64 m.ce)).set 4 (u64 m.v)).set 5 (i64 m.st)).set 6 (i64 m.n))
        generalize (((((((wb.setCell ⟨w.heap.size, 0, none⟩ (i64 m.k)).setCell ⟨w.heap.size, 1, none⟩ (i64 m.who)).setCell ⟨w.heap.size, 2, none⟩ (i64 m.ck)).setCell ⟨w.heap.size, 3, none⟩ (i64 m.ce)).setCell ⟨w.heap.size, 4, none⟩ (u64 m.v)).setCell ⟨w.heap.size, 5, none⟩ (i64 m.st)).setCell ⟨w.heap.size, 6, none⟩ (i64 m.n)) = w5 at hk5 ho5 ⊢
        have HO5 := Lib.hid ho5
        have HK5 := Lib.hid hk5
        have hrd := (HL.out _ HBL.out).rd.keep hk5 (fun e => hne2 e.symm) (fun b off hA hp e => by have := HOLD.out b off hA hp; omega)
        have hob := (HL.out _ HBL.out).obj.keep hk5 (fun e => hne1 e.symm)
        have HRD := Lib.hid hrd
        have HS5 := Lib.hid (show _ ∧ _ ∧ _ ∧ _ ∧ _ ∧ _ ∧ _ ∧ _ from ⟨hob.at' 0 _ rfl, hob.at' 1 _ rfl, hob.at' 2 _ rfl, hob.at' 3 _ rfl, hob.at' 4 _ rfl, hob.at' 5 _ rfl, hob.at' 6 _ rfl, hrd.obj.at' 2 _ rfl⟩)
        clear hk5 ho5 hrd hob o0 o1 o2 o3 o4 o5 o6 g0 g1 g2 g3 g4 g5 g6
        refine hK.out _ _ (HS5.out) (fun _ => ?_)
        (try simp only [Act.put, List.setIfInBounds_toArray, List.set_cons_zero, List.set_cons_succ])
        clear hK K
        repeat (first | (refine seq_take (v := ?_) rfl ?_ ?_ ?_; rotate_left 1; rfl; (focus (intro wS hSw; obtain ⟨c0, c1, c2, c3, c4, c5, c6, d2⟩ := hSw; go_simp; first | done | with_reducible rfl)); (try simp only [Act.put, List.setIfInBounds_toArray, List.set_cons_zero, List.set_cons_succ])) | (refine seq_skip rfl ?_ ?_; rfl; (try simp only [Act.put, List.setIfInBounds_toArray, List.set_cons_zero, List.set_cons_succ])))
        refine seq_done ?_
        go_wp2_with fail
        have r0 := HO5.out.at' 0 _ rfl
        have r1 := HO5.out.at' 1 _ rfl
        have r2 := HO5.out.at' 2 _ rfl
        have r3 := HO5.out.at' 3 _ rfl
        have r4 := HO5.out.at' 4 _ rfl
        have r5 := HO5.out.at' 5 _ rfl
        have r6 := HO5.out.at' 6 _ rfl
        refine bodyPost_ret (v := .tuple #[m.val, .bool true]) (by simp [results, Try.results11, go_sem, r0, r1, r2, r3, r4, r5, r6]) rfl ⟨m, true, rfl, (HL.out _ HBL.out).keep.then' HK5.out (fun i hi => .inr (by omega)), a3, _, HRD.out, ?_⟩
        rcases HM.out.is with ⟨hn, _⟩ | ⟨_, n, hn, ha⟩
        · cases hn
        · obtain ⟨g1, r, g2, g3⟩ := rdMove_enc (fun b hb => HBY.out b (List.mem_of_mem_drop hb)) hn HMR.out
          exact .inr ⟨rfl, rfl, g1, r, g2, by omega⟩
      case neg =>
        have HMR := Lib.hid hmr
        have hdec : decide m.Right = false := decide_eq_false hmr
        clear hmr
        refine wp_region_seqS ((fun wx => wx.cell? ⟨w2.heap.size, 0, none⟩ = some (i64 m.k) ∧ wx.cell? ⟨w2.heap.size, 1, none⟩ = some (i64 m.who) ∧ wx.cell? ⟨w2.heap.size, 2, none⟩ = some (i64 m.ck) ∧ wx.cell? ⟨w2.heap.size, 3, none⟩ = some (i64 m.ce) ∧ wx.cell? ⟨w2.heap.size, 4, none⟩ = some (u64 m.v) ∧ wx.cell? ⟨w2.heap.size, 5, none⟩ = some (i64 m.st) ∧ wx.cell? ⟨w2.heap.size, 6, none⟩ = some (i64 m.n) ∧ wx.cell? ⟨rb, 2, none⟩ = some (.bool false))) ((0, true) :: (1, true) :: (2, true) :: (3, true) :: (4, true) :: (5, true) :: (6, true) :: (7, true) :: (8, false) :: (9, true) :: (10, false) :: (11, true) :: []) (by kernel_rfl) (by kernel_rfl) (by kernel_rfl) (by decide) (fun _ _ _ _ _ h => h) (HC.out _ (HL.out _ (Below.refl _ _).drew)) ?_
        repeat (first | (refine seq_take (v := ?_) rfl ?_ ?_ ?_; rotate_left 1; rfl; (focus (intro wS hSw; obtain ⟨c0, c1, c2, c3, c4, c5, c6, d2⟩ := hSw; go_simp; first | done | with_reducible rfl)); (try simp only [Act.put, List.setIfInBounds_toArray, List.set_cons_zero, List.set_cons_succ])) | (refine seq_skip rfl ?_ ?_; rfl; (try simp only [Act.put, List.setIfInBounds_toArray, List.set_cons_zero, List.set_cons_succ])))
        refine seq_run rfl (fun K hK => ?_)
        go_simp
        go_at_call 9
        refine (mright_any m _).mono ?_
        rintro r wb ⟨rfl, hb⟩
        (try go_wp2_with fail)
        have HBL := Lib.hid (below_step (Below.refl wc.heap.size wc).drew hb)
        clear hb
        refine hK.out _ _ (HC.out _ (HL.out _ HBL.out)) (fun _ => ?_)
        (try simp only [Act.put, List.setIfInBounds_toArray, List.set_cons_zero, List.set_cons_succ])
        clear hK K
        repeat (first | (refine seq_take (v := ?_) rfl ?_ ?_ ?_; rotate_left 1; rfl; (focus (intro wS hSw; obtain ⟨c0, c1, c2, c3, c4, c5, c6, d2⟩ := hSw; go_simp; first | done | with_reducible rfl)); (try simp only [Act.put, List.setIfInBounds_toArray, List.set_cons_zero, List.set_cons_succ])) | (refine seq_skip rfl ?_ ?_; rfl; (try simp only [Act.put, List.setIfInBounds_toArray, List.set_cons_zero, List.set_cons_succ])))
        have HR0 := Lib.hid (HL.out _ HBL.out).res
        have oo := HR0.out
        have o0 := oo.at' 0 _ rfl
        have o1 := oo.at' 1 _ rfl
        have o2 := oo.at' 2 _ rfl
        have o3 := oo.at' 3 _ rfl
        have o4 := oo.at' 4 _ rfl
        have o5 := oo.at' 5 _ rfl
        have o6 := oo.at' 6 _ rfl
        have g0 := oo.fz 0
        have g1 := oo.fz 1
        have g2 := oo.fz 2
        have g3 := oo.fz 3
        have g4 := oo.fz 4
        have g5 := oo.fz 5
        have g6 := oo.fz 6
        have hne1 : w.heap.size ≠ w2.heap.size := by have := HLT3.out; omega
        have hne2 : w.heap.size ≠ rb := by have := HLT.out; omega
        clear oo
        refine seq_run rfl (fun K hK => ?_)
        go_simp
        have hk5 : Keep (· = w.heap.size) wb (((((((wb.setCell ⟨w.heap.size, 0, none⟩ (i64 m.k)).setCell ⟨w.heap.size, 1, none⟩ (i64 m.who)).setCell ⟨w.heap.size, 2, none⟩ (i64 m.ck)).setCell ⟨w.heap.size, 3, none⟩ (i64 m.ce)).setCell ⟨w.heap.size, 4, none⟩ (u64 m.v)).setCell ⟨w.heap.size, 5, none⟩ (i64 m.st)).setCell ⟨w.heap.size, 6, none⟩ (i64 m.n)) :=
          Keep.setCell (T := (· = w.heap.size)) (Keep.setCell (T := (· = w.heap.size)) (Keep.setCell (T := (· = w.heap.size)) (Keep.setCell (T := (· = w.heap.size)) (Keep.setCell (T := (· = w.heap.size)) (Keep.setCell (T := (· = w.heap.size)) (Keep.setCell (T := (· = w.heap.size)) (Keep.refl _ _) ⟨w.heap.size, 0, none⟩ rfl _) ⟨w.heap.size, 1, none⟩ rfl _) ⟨w.heap.size, 2, none⟩ rfl _) ⟨w.heap.size, 3, none⟩ rfl _) ⟨w.heap.size, 4, none⟩ rfl _) ⟨w.heap.size, 5, none⟩ rfl _) ⟨w.heap.size, 6, none⟩ rfl _
        have ho5 := (((((((HR0.out.set 0 (i64 m.k)).set 1 (i64 m.who)).set 2 (i64 m.ck)).set 3 (i64 m.ce)).set 4 (u64 m.v)).set 5 (i64 m.st)).set 6 (i64 m.n))
        generalize (((((((wb.setCell ⟨w.heap.size, 0, none⟩ (i64 m.k)).setCell ⟨w.heap.size, 1, none⟩ (i64 m.who)).setCell ⟨w.heap.size, 2, none⟩ (i64 m.ck)).setCell ⟨w.heap.size, 3, none⟩ (i64 m.ce)).setCell ⟨w.heap.size, 4, none⟩ (u64 m.v)).setCell ⟨w.heap.size, 5, none⟩ (i64 m.st)).setCell ⟨w.heap.size, 6, none⟩ (i64 m.n)) = w5 at hk5 ho5 ⊢
        have HO5 := Lib.hid ho5
        have HK5 := Lib.hid hk5
        have hrd := (HL.out _ HBL.out).rd.keep hk5 (fun e => hne2 e.symm) (fun b off hA hp e => by have := HOLD.out b off hA hp; omega)
        have hob := (HL.out _ HBL.out).obj.keep hk5 (fun e => hne1 e.symm)
        have HRD := Lib.hid hrd
        have HS5 := Lib.hid (show _ ∧ _ ∧ _ ∧ _ ∧ _ ∧ _ ∧ _ ∧ _ from ⟨hob.at' 0 _ rfl, hob.at' 1 _ rfl, hob.at' 2 _ rfl, hob.at' 3 _ rfl, hob.at' 4 _ rfl, hob.at' 5 _ rfl, hob.at' 6 _ rfl, hrd.obj.at' 2 _ rfl⟩)
        clear hk5 ho5 hrd hob o0 o1 o2 o3 o4 o5 o6 g0 g1 g2 g3 g4 g5 g6
        refine hK.out _ _ (HS5.out) (fun _ => ?_)
        (try simp only [Act.put, List.setIfInBounds_toArray, List.set_cons_zero, List.set_cons_succ])
        clear hK K
        repeat (first | (refine seq_take (v := ?_) rfl ?_ ?_ ?_; rotate_left 1; rfl; (focus (intro wS hSw; obtain ⟨c0, c1, c2, c3, c4, c5, c6, d2⟩ := hSw; go_simp; first | done | with_reducible rfl)); (try simp only [Act.put, List.setIfInBounds_toArray, List.set_cons_zero, List.set_cons_succ])) | (refine seq_skip rfl ?_ ?_; rfl; (try simp only [Act.put, List.setIfInBounds_toArray, List.set_cons_zero, List.set_cons_succ])))
        refine seq_done ?_
        go_wp2_with fail
        have r0 := HO5.out.at' 0 _ rfl
        have r1 := HO5.out.at' 1 _ rfl
        have r2 := HO5.out.at' 2 _ rfl
        have r3 := HO5.out.at' 3 _ rfl
        have r4 := HO5.out.at' 4 _ rfl
        have r5 := HO5.out.at' 5 _ rfl
        have r6 := HO5.out.at' 6 _ rfl
        refine bodyPost_ret (v := .tuple #[m.val, .bool false]) (by simp [results, Try.results11, go_sem, r0, r1, r2, r3, r4, r5, r6]) rfl ⟨m, false, rfl, (HL.out _ HBL.out).keep.then' HK5.out (fun i hi => .inr (by omega)), a3, _, HRD.out, ?_⟩
        rcases HM.out.is with ⟨hn, _⟩ | ⟨_, n, hn, ha⟩
        · cases hn
        · refine .inl ⟨rfl, fun m' r hg he => ?_⟩
          rw [he, enc_rdMove hg, Option.some.injEq, Prod.mk.injEq] at hn
          rw [hn.1] at hg
          exact HMR.out hg.1
end Go.Proofs.Ytebgjfhaolgcjaa
