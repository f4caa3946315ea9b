/-
  What the laws on claims have in common: what the call holds, the document's example, places as they are made. No condition.
-/
import Derived.Test.YtgpdoihgnpkanaaClaimStep
import Derived.Test.YtgpdoihgnpkanaaWordMore
import Derived.Test.YtgpdoihgnpkanaaRows2
import Derived.Test.YtgpdoihgnpkanaaWalkTickMost
namespace Go.Proofs.Ytgpdoihgnpkanaa
open Go.RowKit
set_option linter.unusedVariables false

/-- Cells, a claim, and what else the call holds. -/
def ClHold (W w : World) (p c : Nat) (v : Value) (C : List Int) (L : List Ev) (b : Nat) (k : Cl) (R : List Thing) : Prop :=
  Hold W w (tMem W.heap.size p c v C L :: tObj W.heap.size b k.list :: R)

section
variable {W w w' : World} {p c b : Nat} {v v' : Value} {C C' : List Int} {L L' : List Ev} {k k' : Cl} {R : List Thing}
theorem ClHold.mem (h : ClHold W w p c v C L b k R) : IsMem W.heap.size w p c v C L := Hold.has h 0 _ rfl
theorem ClHold.obj (h : ClHold W w p c v C L b k R) : IsObj w b k.list := (Hold.has h 1 _ rfl).1
theorem ClHold.later (h : ClHold W w p c v C L b k R) (e : Below w.heap.size w w') : ClHold W w' p c v C L b k R := Hold.later h e
theorem ClHold.size (h : ClHold W w p c v C L b k R) : W.heap.size ≤ w.heap.size := Hold.size h
theorem ClHold.below (h : ClHold W w p c v C L b k R) : Below W.heap.size W w := Hold.below h
theorem ClHold.store (h : ClHold W w p c v C L b k R) (t : Touched W.heap.size w w' p c v v' C' L') : ClHold W w' p c v' C' L' b k R := Hold.mem h 0 rfl t
/-- A step. -/
theorem ClHold.call {n m : Int} {hz : Nat} (h : ClHold W w p c v C L b k R) (hk : k.Ok n m hz C) (hL : L.length < 1000000000) :
    Calls Try.prog 17 #[pt b, pt p] w fun r w' => r = .returned (i64 (k.step m hz C).ph) ∧ ∃ v', ClHold W w' p c v' C (L ++ k.ev hz C) b (k.step m hz C) R :=
  (clstep_any W.heap.size w b p c v C L k n m hz hk h.obj h.mem (Hold.free h 0 1 (by decide) rfl rfl b rfl) h.size hL).mono fun r w' ⟨hr, v', hd, hs⟩ =>
    ⟨hr, v', Hold.does h 0 1 (by decide) rfl rfl hd (tObj_ok _ _ _) ⟨hs, (Hold.has h 1 _ rfl).2⟩ (fun q hq => hq)⟩
theorem ClHold.begun (h : Hold W w (tMem W.heap.size p c v C L :: [])) (e : Below w.heap.size w w') (hk : IsObj w' b k.list) (hb : w.heap.size ≤ b) : ClHold W w' p c v C L b k [] :=
  Hold.more h e (tObj_ok _ _ _) ⟨hk, Nat.le_trans h.size hb⟩ (fun q hq => by cases hq; exact hb)
end

theorem Cl.ev_le (k : Cl) (hz : Nat) (C : List Int) : (k.ev hz C).length ≤ 1 := by
  unfold Cl.ev
  split <;> simp

theorem lay22' : Lay 2 2 4 := ⟨rfl, by omega, by omega, by omega, by omega, by omega, by omega, by omega⟩

theorem Hold.cells {W w w' : World} {p c n : Nat} (hB : Below W.heap.size W w) (hM : IsMem W.heap.size w' p c (.slice none 0 0) (List.replicate n 0) []) (e : Below w.heap.size w w') (hp : w.heap.size ≤ p) (hc : w.heap.size ≤ c) :
    Hold W w' [tMem W.heap.size p c (.slice none 0 0) (List.replicate n 0) []] :=
  (Hold.nil hB).more e (tMem_ok _ _ _ _ _ _) hM (fun q hq => by
    rcases hq with rfl | rfl | hq
    · exact hp
    · exact hc
    · cases hq)

set_option maxHeartbeats 2000000 in
theorem head6_any (w : World) : Calls Try.prog 11 #[] w fun r w' => r = .returned (.bool true) ∧ Below w.heap.size w w' := by
  have hA := AtC.made w 2 2 0 0
  have hB0 : Below w.heap.size w (w.alloc (.cells #[.int .i64 2, .int .i64 2, .int .i64 0, .int .i64 0] 27)) := below_new (Below.refl _ _) _
  have hs0 : w.heap.size + 1 = (w.alloc (.cells #[.int .i64 2, .int .i64 2, .int .i64 0, .int .i64 0] 27)).heap.size := by simp
  have HA := Lib.hid hA
  have HB0 := Lib.hid hB0
  have Hs0 := Lib.hid hs0
  clear hA hB0 hs0
  go_enter Try.func11, Try.ntmps11
  go_wp2_with fail
  generalize hW : w.alloc (.cells #[.int .i64 2, .int .i64 2, .int .i64 0, .int .i64 0] 27) = W at HA HB0 Hs0 ⊢
  clear hW
  refine (ccells_any 2 2 0 0 4 _ lay22').mono ?_
  rintro r w1 ⟨rfl, hb1⟩
  go_wp2_with fail
  refine (new_nat W.heap.size 12 12 _ hb1.size (by decide) (.inl rfl)).mono ?_
  rintro r w2 ⟨p, c, rfl, hM2, hb2, hp, hc⟩
  have HH0 := Lib.hid (Hold.cells hb1 hM2 hb2 hp hc)
  clear hM2 hb2 hp hc hb1
  obtain ⟨q0, q1, q2, q3⟩ := HA.out.later HH0.out.below (by have := Hs0.out; omega)
  go_wp2_with fail
  refine (clnew_any _ 4 2 2 2 0 0 1 lay22' (by decide) (by decide) rfl (by decide) (by decide)).mono ?_
  rintro r w3 ⟨b, rfl, hS3, hb3, hbb⟩
  have HH := Lib.hid (ClHold.begun HH0.out hb3 hS3 hbb)
  clear hS3 hb3 hbb q0 q1 q2 q3 HH0
  have hok : (cl0 2 2 0 0 1 2).Ok 4 2 8 (List.replicate 12 0) := ⟨lay22', rfl, by decide, by decide, by decide, rfl, by decide, by decide, by decide, by decide, by decide, by decide⟩
  have hst := HH.out.call hok (by decide)
  rw [show (cl0 2 2 0 0 1 2).step 2 8 (List.replicate 12 0) = { cl0 2 2 0 0 1 2 with ph := 1 } from rfl, show (cl0 2 2 0 0 1 2).ev 8 (List.replicate 12 0) = [⟨1, 0, 2, 0, 0, true⟩] from rfl] at hst
  have HST := Lib.hid hst
  clear hst hok
  go_wp2_with fail
  refine HST.out.mono ?_
  rintro r w4 ⟨rfl, v4, hH4⟩
  have HH4 := Lib.hid hH4
  clear hH4
  go_wp2_with fail
  refine (clslot_any _ b _ HH4.out.obj).mono ?_
  rintro r w' ⟨rfl, rfl⟩
  go_wp2_with fail
  refine (count_any W.heap.size _ p c v4 _ _ HH4.out.mem).mono ?_
  rintro r w' ⟨rfl, rfl⟩
  obtain ⟨q0, q1, q2, q3⟩ := HA.out.later HH4.out.below (by have := Hs0.out; omega)
  go_wp2_with fail
  refine (clmost_any _ 2 2 0 0 (by decide) (by decide) (by decide) (by decide) 6 rfl (by decide) (by decide)).mono ?_
  rintro r w5 ⟨rfl, hb5⟩
  have hbf := Lib.hid (below_step' HB0.out (HH4.out.later hb5).below (by have := Hs0.out; omega))
  clear q0 q1 q2 q3 hb5
  go_wp2
  go_ret
  exact ⟨rfl, hbf.out⟩

theorem mod3 (a : Int) : ∃ v : Int, 0 ≤ v ∧ v ≤ 2 ∧ wrap64 ((IntKind.u64.wrap a).tmod 3) = v ∧ IntKind.i64.wrap ((IntKind.u64.wrap a).tmod 3) = v := by
  have h0 : 0 ≤ IntKind.u64.wrap a := by rw [IntKind.wrap_u64]; omega
  refine ⟨IntKind.u64.wrap a % 3, by omega, by omega, ?_, ?_⟩
  · rw [Int.tmod_eq_emod_of_nonneg h0]
    unfold wrap64
    omega
  · rw [Int.tmod_eq_emod_of_nonneg h0]
    exact IntWalk.i64_in _ (by omega)

/-- What a place says of itself as it is made: always a word that is right. -/
def PlacePost (w : World) (r : Ending) (w' : World) : Prop := ∃ s g : Int, r = .returned (wd s 0 g 0 0) ∧ 0 ≤ s ∧ s ≤ 2 ∧ 0 ≤ g ∧ g ≤ 8191 ∧ Below w.heap.size w w'

set_option maxHeartbeats 2000000 in
theorem place_any (a g : Int) (l : Bool) (w : World) : Calls Try.prog 40 #[.agg #[i64 a, i64 g, .bool l]] w (PlacePost w) := by
  obtain ⟨s, s0, s1, hs1, hs2⟩ := mod3 a
  obtain ⟨g3, hg3, k0, k1⟩ : ∃ u, bits .and .i64 g 3 = u ∧ 0 ≤ u ∧ u ≤ 3 := ⟨_, by rw [show (3 : Int) = ((3 : Nat) : Int) from rfl, and_i64 g 3 2 rfl (by decide)], by show (0 : Int) ≤ g % ((2 ^ 2 : Nat) : Int); omega, by show g % ((2 ^ 2 : Nat) : Int) ≤ 3; omega⟩
  obtain ⟨g1, hg1, j0, j1⟩ : ∃ u, bits .and .i64 g 1 = u ∧ 0 ≤ u ∧ u ≤ 1 := ⟨_, by rw [show (1 : Int) = ((1 : Nat) : Int) from rfl, and_i64 g 1 1 rfl (by decide)], by show (0 : Int) ≤ g % ((2 ^ 1 : Nat) : Int); omega, by show g % ((2 ^ 1 : Nat) : Int) ≤ 1; omega⟩
  by_cases h : bits .and .i64 g 64 = 64
  · have q : (bits .and .i64 g 64 == 64) = true := by simp [h]
    clear h
    go_enter Try.func40, Try.ntmps40
    go_wp2
    refine bodyPost_ret (v := wd s 0 (8191 - g1) 0 0) (by simp [results, Try.results40, go_sem]) rfl ⟨s, 8191 - g1, rfl, s0, s1, by omega, by omega, ?_⟩
    (try refine below_step ?_ hB); repeat (first | exact Below.refl _ _ | refine below_step ?_ (by assumption) | refine below_new ?_ _ | refine Below.drew ?_ | refine below_drawn ?_ _)
  · have q : (bits .and .i64 g 64 == 64) = false := by simp [h]
    clear h
    go_enter Try.func40, Try.ntmps40
    go_wp2
    refine bodyPost_ret (v := wd s 0 g3 0 0) (by simp [results, Try.results40, go_sem]) rfl ⟨s, g3, rfl, s0, s1, by omega, by omega, ?_⟩
    (try refine below_step ?_ hB); repeat (first | exact Below.refl _ _ | refine below_step ?_ (by assumption) | refine below_new ?_ _ | refine Below.drew ?_ | refine below_drawn ?_ _)

end Go.Proofs.Ytgpdoihgnpkanaa
