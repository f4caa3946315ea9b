/-
  What the laws on tasks have in common: a call that has begun a task; the document's example. No condition.
-/
import Derived.Test.YtemaghebpnjmoaaTaskGet
namespace Go.Proofs.Ytemaghebpnjmoaa
open Go.RowKit
set_option linter.unusedVariables false

/-- Two more things, made at once. -/
theorem Hold.join {W w : World} {l : List Thing} {A B : Thing} (h1 : Hold W w (l ++ [A])) (h2 : Hold W w (l ++ [B])) (hab : ∀ q, A.F q → ¬ B.F q) : Hold W w (l ++ [A, B]) := by
  have c3 : ∀ (i : Nat) (E : Thing), (l ++ [A, B])[i]? = some E → (i < l.length ∧ l[i]? = some E) ∨ (i = l.length ∧ E = A) ∨ (i = l.length + 1 ∧ E = B) := by
    intro i E he
    rcases Nat.lt_or_ge i l.length with hi | hi
    · rw [List.getElem?_append_left hi] at he
      exact .inl ⟨hi, he⟩
    · rw [List.getElem?_append_right hi] at he
      rcases (by omega : i - l.length = 0 ∨ i - l.length = 1 ∨ 2 ≤ i - l.length) with h | h | h
      · rw [h] at he
        cases he
        exact .inr (.inl ⟨by omega, rfl⟩)
      · rw [h] at he
        cases he
        exact .inr (.inr ⟨by omega, rfl⟩)
      · rw [List.getElem?_eq_none (by simpa using h)] at he
        cases he
  have a1 : ∀ {i : Nat} {E : Thing} {X : Thing}, i < l.length → l[i]? = some E → (l ++ [X])[i]? = some E := fun hi he => by rw [List.getElem?_append_left hi]; exact he
  have a2 : ∀ {X : Thing}, (l ++ [X])[l.length]? = some X := fun {X} => by rw [List.getElem?_append_right (Nat.le_refl _), Nat.sub_self]; rfl
  refine ⟨h1.size, h1.below, fun i E he => ?_, fun i E he => ?_, fun i j E G he hg hij q hq hq' => ?_⟩
  · rcases c3 i E he with ⟨hi, he⟩ | ⟨rfl, rfl⟩ | ⟨rfl, rfl⟩
    · exact h1.ok i E (a1 hi he)
    · exact h1.ok _ _ a2
    · exact h2.ok l.length _ a2
  · rcases c3 i E he with ⟨hi, he⟩ | ⟨rfl, rfl⟩ | ⟨rfl, rfl⟩
    · exact h1.has i E (a1 hi he)
    · exact h1.has _ _ a2
    · exact h2.has l.length _ a2
  · rcases c3 i E he with ⟨hi, he'⟩ | ⟨rfl, rfl⟩ | ⟨rfl, rfl⟩ <;> rcases c3 j G hg with ⟨hj, hg'⟩ | ⟨rfl, rfl⟩ | ⟨rfl, rfl⟩
    · exact h1.apart i j E G (a1 hi he') (a1 hj hg') hij q hq hq'
    · exact h1.apart i l.length E _ (a1 hi he') a2 (by omega) q hq hq'
    · exact h2.apart i l.length E _ (a1 hi he') a2 (by omega) q hq hq'
    · exact h1.apart j l.length G _ (a1 hj hg') a2 (by omega) q hq' hq
    · omega
    · exact hab q hq hq'
    · exact h2.apart j l.length G _ (a1 hj hg') a2 (by omega) q hq' hq
    · exact hab q hq' hq
    · omega

section
variable {W w w' : World} {p c b : Nat} {v : Value} {C : List Int} {L : List Ev} {R : List Thing} {kd e x s : Int}

/-- Two that came last stand second and third. -/
theorem Hold.third {a b c : Thing} {R : List Thing} (h : Hold W w (a :: R ++ [b, c])) : Hold W w (a :: b :: c :: R) :=
  h.sel (fun i => if i = 0 then 0 else if i = 1 then R.length + 1 else if i = 2 then R.length + 2 else i - 2) (fun i A hi => by
    match i with
    | 0 => exact hi
    | 1 =>
      show (a :: R ++ [b, c])[R.length + 1]? = some A
      rw [List.getElem?_append_right (by simp)]
      simpa using hi
    | 2 =>
      show (a :: R ++ [b, c])[R.length + 2]? = some A
      rw [List.getElem?_append_right (by simp)]
      simpa using hi
    | i + 3 =>
      show (a :: R ++ [b, c])[i + 1]? = some A
      have hi' : R[i]? = some A := hi
      have hl : i < R.length := by
        rcases Nat.lt_or_ge i R.length with h | h
        · exact h
        · rw [List.getElem?_eq_none h] at hi'
          cases hi'
      rw [List.getElem?_append_left (by show i + 1 < R.length + 1; omega)]
      exact hi') (fun i j hi hj he => by
    have hi' : i < R.length + 3 := hi
    have hj' : j < R.length + 3 := hj
    split at he <;> split at he <;> (try split at he) <;> (try split at he) <;> (try split at he) <;> (try split at he) <;> omega)

theorem PuHold.tbegun {bp b1 b2 : Nat} {k : Pu} (h : Hold W w (tMem W.heap.size p c v C L :: R)) (hb : Below w.heap.size w w') (ho : IsObj w' b (taskL kd e x s (wPut bp))) (hk : IsPu w' bp b1 b2 k) (hn : ∀ i, TpB b bp b1 b2 i → w.heap.size ≤ i) (hne : ¬ PuB bp b1 b2 b) :
    PuHold W w' p c v C L bp b1 b2 k (tTask W b kd e x s (wPut bp) :: R) :=
  Hold.third (Hold.join (Hold.more h hb (tPu_ok W.heap.size bp b1 b2 k) ⟨hk, fun i hi => Nat.le_trans h.size (hn i (.inr hi))⟩ (fun i hi => hn i (.inr hi)))
    (Hold.more h hb (tObj_ok W.heap.size b (taskL kd e x s (wPut bp))) ⟨ho, Nat.le_trans h.size (hn b (.inl rfl))⟩ (fun i hi => hn i (.inl hi))) (fun q hq hb => hne (by have hb' : q = b := hb; exact hb' ▸ hq)))
theorem GeH.tbegun {bg bs gs : Nat} {k : Ge} (h : Hold W w (tMem W.heap.size p c v C L :: R)) (hb : Below w.heap.size w w') (ho : IsObj w' b (taskL kd e x s (wGet bg))) (hk : IsGe W.heap.size w' bg bs gs none k) (hn : ∀ i, i = b ∨ GeB bg bs gs none i → w.heap.size ≤ i) (hne : ¬ GeB bg bs gs none b) :
    GeH W w' p c C L bg k (tTask W b kd e x s (wGet bg) :: R) :=
  ⟨v, bs, gs, none, Hold.third (Hold.join (Hold.more h hb (tGe_ok W.heap.size bg bs gs none k) hk (fun i hi => hn i (.inr hi)))
    (Hold.more h hb (tObj_ok W.heap.size b (taskL kd e x s (wGet bg))) ⟨ho, Nat.le_trans h.size (hn b (.inl rfl))⟩ (fun i hi => hn i (.inl hi))) (fun q hq hb => hne (by have hb' : q = b := hb; exact hb' ▸ hq)))⟩
end

def kP : Pu := pu0 1 1 0 0 0 0 7 0
def kPC : List Int := List.replicate 4 0

theorem kP_ok : kP.Ok 1 0 3 2 kPC := pu0_ok lay11 rfl rfl rfl (by decide) (by decide) rfl (by decide) (by decide) (by decide) (by decide) (by decide) (by decide) (by decide) (by decide) (by decide) (by decide)

set_option maxRecDepth 100000 in
set_option maxHeartbeats 8000000 in
theorem head12_any (w : World) : Calls Try.prog 7 #[] w fun r w' => r = .returned (.bool true) ∧ Below w.heap.size w w' := by
  have hA := AtC.made w 1 1 0 0
  have hB0 : Below w.heap.size w (w.alloc (.cells #[.int .i64 1, .int .i64 1, .int .i64 0, .int .i64 0] 32)) := below_new (Below.refl _ _) _
  have hs0 : w.heap.size + 1 = (w.alloc (.cells #[.int .i64 1, .int .i64 1, .int .i64 0, .int .i64 0] 32)).heap.size := by simp
  have HA := Lib.hid hA
  have HB0 := Lib.hid hB0
  have Hs0 := Lib.hid hs0
  clear hA hB0 hs0
  go_enter Try.func7, Try.ntmps7
  go_wp2_with fail
  generalize hW : w.alloc (.cells #[.int .i64 1, .int .i64 1, .int .i64 0, .int .i64 0] 32) = W at HA HB0 Hs0 ⊢
  clear hW
  refine (ccells_any 1 1 0 0 1 _ lay11).mono ?_
  rintro r w1 ⟨rfl, hb1⟩
  go_wp2_with fail
  refine (new_nat W.heap.size 4 4 _ hb1.size (by decide) (.inl rfl)).mono ?_
  rintro r w2 ⟨p, c, rfl, hM2, hb2, hp, hc⟩
  have HH0 := Lib.hid (Hold.cells hb1 hM2 hb2 hp hc)
  clear hM2 hb2 hp hc hb1
  obtain ⟨q0, q1, q2, q3⟩ := HA.out.later HH0.out.below (by have := Hs0.out; omega)
  go_wp2_with fail
  refine (tknew_put (N := 1) 1 1 0 0 0 0 7 0 0 lay11 (by decide) (by decide) rfl (by decide) (by decide) (.inl rfl)).mono ?_
  rintro r w3 ⟨b, bp, b1, b2, rfl, hO3, hS3, hb3, hn3, hne3⟩
  have HH1 : Hid (PuHold W w3 p c (.slice none 0 0) kPC [] bp b1 b2 kP [tTask W b 0 0 7 0 (wPut bp)]) := PuHold.tbegun HH0.out hb3 hO3 hS3 hn3 hne3
  clear hS3 hO3 hb3 hn3 hne3 HH0 q0 q1 q2 q3
  have phP : Hid (∀ q, q ≤ 4 → (runPu 1 0 3 2 q kP kPC).1.ph = if q < 4 then 0 else 1) := by show ∀ q, q ≤ 4 → _; decide
  go_wp2_with fail
  go_loopw [4] (fun i wr => ∃ (q : Nat) (v : Value) (L : List Ev), q ≤ 4 ∧ i = .int .i64 q ∧ Hid (PuHold W wr p c v (runPu 1 0 3 2 q kP kPC).2 L bp b1 b2 (runPu 1 0 3 2 q kP kPC).1 [tTask W b 0 0 7 0 (wPut bp)]) ∧ Hid (L.length ≤ q) ∧ Hid ((runPu 1 0 3 2 q kP kPC).1.Ok 1 0 3 2 (runPu 1 0 3 2 q kP kPC).2)) (fun i _ => 9 - (intOf i).toNat)
  case atStart => exact ⟨0, _, [], by omega, rfl, HH1, Nat.le_refl _, kP_ok⟩
  case round =>
    clear HH1
    obtain ⟨q, v, L, hq, rfl, HH, HL, HK⟩ := hrel
    have hph := phP.out q hq
    have HO := Lib.hid (tover_put HH.out.obj HH.out.pu)
    rcases Nat.lt_or_ge q 4 with hq3 | hq3
    · rw [if_pos hq3] at hph
      rw [hph] at HO
      have hst := HH.out.tstep (now := (q : Int)) HK.out (by omega) (by have := HL.out; omega)
      have HST := Lib.hid hst
      clear hst hph
      have hq9 : (q : Int) < 9 := by omega
      go_wp2_with fail
      refine HO.out.mono ?_
      rintro r wr2 ⟨rfl, rfl⟩
      clear HO
      go_wp2_with fail
      refine HST.out.mono ?_
      rintro r w10 ⟨rfl, v10, hH⟩
      have HH2 := Lib.hid hH
      have HL2 := Lib.hid (Pu.ev_le (runPu 1 0 3 2 q kP kPC).1 1 3 2 (runPu 1 0 3 2 q kP kPC).2 q)
      have HK2 := Lib.hid ((HK.out.next_ (now := (q : Int)) (by omega) HH.out.mem.nn).1.cells (Pu.cells_len (runPu 1 0 3 2 q kP kPC).1 1 3 (runPu 1 0 3 2 q kP kPC).2 q))
      clear HK
      clear hH
      go_wp2_with fail
      go_roundw
      case rel => exact ⟨q + 1, v10, _, by omega, by go_num, HH2, by have := HL.out; have := HL2.out; show _ ≤ _; rw [List.length_append]; omega, HK2⟩
      case measure => first | omega | (simp [intOf]; done) | (simp [intOf]; omega)
    · obtain rfl : q = 4 := by omega
      have hph : (runPu 1 0 3 2 4 kP kPC).1.ph = 1 := by decide
      have hre : (runPu 1 0 3 2 4 kP kPC).1.reply = replyV true 0 0 0 := by rw [Pu.reply, if_pos hph]; rfl
      have hCC : (runPu 1 0 3 2 4 kP kPC).2 = [9, 7, 0, 1] := by decide
      have HM : Hid (IsMem W.heap.size wr p c v [9, 7, 0, 1] L) := hCC ▸ HH.out.mem
      have HR := Lib.hid HH.out.treply
      rw [hre] at HR
      have HB := Lib.hid HH.out.below
      rw [hph] at HO
      clear hph hre hCC hq3 HH phP HK
      go_wp2_with fail
      refine HO.out.mono ?_
      rintro r wr2 ⟨rfl, rfl⟩
      clear HO
      go_wp2_with fail
      refine HR.out.mono ?_
      rintro r w4 ⟨rfl, hb4⟩
      have HM1 := Lib.hid (HM.out.later hb4)
      have HB1 := Lib.hid (below_step' HB.out hb4 HB.out.size)
      clear hb4 HR
      obtain ⟨q0, q1, q2, q3⟩ := HA.out.later HB1.out (by have := Hs0.out; omega)
      go_wp2_with fail
      refine (pvalue_at 1 1 0 0 1 0 1 _ lay11 (by decide) (by decide) rfl).mono ?_
      rintro r w5 ⟨rfl, hb5⟩
      have HM2 := Lib.hid (HM1.out.later hb5)
      have HB2 := Lib.hid (below_step' HB1.out hb5 HB1.out.size)
      clear hb5 q0 q1 q2 q3
      go_wp2_with fail
      refine (peek_in W.heap.size _ p c _ _ _ 1 7 HM2.out rfl).mono ?_
      rintro r wr2 ⟨rfl, rfl⟩
      go_wp2_with fail
      go_ret
      exact ⟨rfl, below_step' HB0.out HB2.out (by have := Hs0.out; omega)⟩

end Go.Proofs.Ytemaghebpnjmoaa
