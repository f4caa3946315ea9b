/-
  The example at the head of every law on yards, as data: a put of four steps, a get of seven. No Go. No condition.
-/
import Derived.Test.YtpfjommkjkbonaaGreatYardDo
namespace Go.Proofs.YtpfjommkjkbonaaGreat
open Go.RowKit
set_option linter.unusedVariables false

def hP : Pl := ⟨1, 0, 3, 2, 2⟩
def hstep (Y : Yd) : Yd := match Y.ts with
  | some (T, i) :: _ => Y.step hP 0 T i 0
  | _ => Y
def hY : Nat → Yd
  | 0 => Yd.call ⟨[0, 0, 0, 0], [], 0, 0, [none], []⟩ 0 0 0 7 0 (wk0 1 1 0 0 0 false 0 7 0 0 1)
  | q + 1 => hstep (hY q)
def hZ : Nat → Yd
  | 0 => (hY 4).call 0 1 0 0 0 (wk0 1 1 0 0 0 true 0 0 0 0 1)
  | q + 1 => hstep (hZ q)

theorem hY_ts : ∀ q, q < 4 → ∃ k, (hY q).ts = [some (.pu k, 0)]
  | 0, _ => ⟨_, rfl⟩
  | 1, _ => ⟨_, rfl⟩
  | 2, _ => ⟨_, rfl⟩
  | 3, _ => ⟨_, rfl⟩
  | q + 4, h => by omega
theorem hY_4 : (hY 4).ts = [none] := rfl
theorem hY_len : (hY 4).ds.length = 1 ∧ (hY 4).moves = 5 ∧ (hY 4).C = [9, 7, 0, 1] := ⟨rfl, rfl, rfl⟩
theorem hZ_7 : (hZ 7).ts = [none] ∧ (hZ 7).now = 11 ∧ ∃ d, (hZ 7).ds = [d, ⟨0, 1, 0, 0, 0, 5, 12, true, 7, 0, 0⟩] := ⟨rfl, rfl, _, rfl⟩
theorem hend {e z : Int} (h : IsEnd [9] e z) : z = 0 := by
  rcases h with ⟨_, h⟩ | ⟨i, h0, h1, h2, _⟩
  · exact absurd (by decide : live [9] 0) (h 0 (by decide))
  · have h1' : i < 1 := h1
    omega
theorem hZ_ts : ∀ q, q < 7 → ∃ k, (hZ q).ts = [some (.ge k, 1)] ∧ ∀ z, k.ask (hZ q).C z → k.step 1 2 (hZ q).C z = k.step 1 2 (hZ q).C 0
  | 0, _ => ⟨_, rfl, fun z h => rfl⟩
  | 1, _ => ⟨_, rfl, fun z h => by
    have hz : IsEnd [9] 0 z := h rfl rfl rfl
    rw [hend hz]⟩
  | 2, _ => ⟨_, rfl, fun z h => rfl⟩
  | 3, _ => ⟨_, rfl, fun z h => rfl⟩
  | 4, _ => ⟨_, rfl, fun z h => rfl⟩
  | 5, _ => ⟨_, rfl, fun z h => rfl⟩
  | 6, _ => ⟨_, rfl, fun z h => rfl⟩
  | q + 7, h => by omega
theorem hY_step {q : Nat} {T : Wk} {i : Nat} {z : Int} (hq : q < 4) (h : (hY q).ts[0]? = some (some (T, i))) : (hY q).step hP 0 T i z = hY (q + 1) := by
  obtain ⟨k, hk⟩ := hY_ts q hq
  rw [hk] at h
  cases h
  show _ = hstep (hY q)
  unfold hstep
  rw [hk]
  rfl
theorem hZ_step {q : Nat} {T : Wk} {i : Nat} {z : Int} (hq : q < 7) (h : (hZ q).ts[0]? = some (some (T, i))) (ha : T.ask (hZ q).C z) : (hZ q).step hP 0 T i z = hZ (q + 1) := by
  obtain ⟨k, hk, hk2⟩ := hZ_ts q hq
  rw [hk] at h
  cases h
  show _ = hstep (hZ q)
  unfold hstep
  rw [hk]
  have e : (Wk.ge k).step hP (hZ q).C (hZ q).now z = (Wk.ge k).step hP (hZ q).C (hZ q).now 0 := congrArg Wk.ge (hk2 z ha)
  unfold Yd.step
  rw [e]

abbrev hB (yb tb p c : Nat) : YB := ⟨yb, tb, p, c, (1 : Nat), 1, 0, 0, 1⟩
theorem hCf (yb tb p c : Nat) : YCf (hB yb tb p c) 1 := ⟨lay11, Int.le_refl _, by show (0 : Int) ≤ 4; decide, Int.le_refl _, by show (0 : Int) ≤ 100; decide⟩
/-- What is known of it on its way. -/
structure HdY (W w : World) (l : List Thing) (B : YB) (Y : Yd) (J : Nat → Nat) (n : Nat) : Prop where
  h : YH W w l B Y J
  ok : YOk (plOf B 1) 1 n Y
  len : Y.C.length = 4
section
variable {W w w' : World} {l : List Thing} {B : YB} {Y Y' : Yd} {J : Nat → Nat} {n yb tb p c : Nat}
theorem HdY.later (h : HdY W w l B Y J n) (e : Below w.heap.size w w') : HdY W w' l B Y J n := ⟨h.h.later e, h.ok, h.len⟩
theorem step_len {P : Pl} {k i : Nat} {T : Wk} {z : Int} : (Y.step P k T i z).C.length = Y.C.length := Wk.cells_len
theorem HdY.go (h : HdY W w l (hB yb tb p c) Y J n) (hn : n < 1000000) (ha : ∃ a, Y.ts[0]? = some (some a)) (hs : ∀ T i z, Y.ts[0]? = some (some (T, i)) → T.ask Y.C z → Y.step hP 0 T i z = Y') :
    Calls Tryz.prog 39 #[pt yb, i64 0] w fun r w' => r = .returned (.bool true) ∧ ∃ l', HdY W w' l' (hB yb tb p c) Y' J (n + 1) := by
  obtain ⟨a, ha⟩ := ha
  obtain ⟨v, vd, X, hA⟩ := h.h
  have hin := ystep_any hA h.ok hn ha
  refine hin.mono ?_
  rintro r w' ⟨rfl, z, hz, l', hl', _⟩
  have e : Y.step (plOf (hB yb tb p c) 1 0) 0 a.1 a.2 z = Y' := hs a.1 a.2 z ha hz
  have ho := h.ok.next (.step 0 a.1 a.2 z ha hz) hn h.h.fit
  rw [e] at hl' ho
  exact ⟨rfl, l', hl', ho, by rw [← e, step_len]; exact h.len⟩
theorem HdY.busy (h : HdY W w l (hB yb tb p c) Y J n) (q : Bool) (hq : ∃ a, Y.ts[0]? = some a ∧ a.isSome = q) :
    Calls Tryz.prog 35 #[pt yb, i64 0] w fun r w' => r = .returned (.bool q) ∧ w = w' := by
  obtain ⟨a, ha, rfl⟩ := hq
  obtain ⟨v, vd, X, hA⟩ := h.h
  exact busy_in hA 0 (by show 0 < 1; decide) a ha
theorem HdY.call (h : HdY W w l (hB yb tb p c) Y J n) (hn : n < 1000000) (hq : Y.ts[0]? = some none) (take : Bool) {kd : Int} (hkd : kdI take = kd) (x : Int) (x0 : 0 ≤ x) (x1 : x ≤ 18446744073709551615) (hs : Y.call 0 kd 0 x 0 (wk0 1 1 0 0 0 take 0 x 0 0 1) = Y') :
    Calls Tryz.prog 38 #[pt yb, i64 0, callV kd 0 x 0] w fun r w' => r = .returned (i64 0) ∧ ∃ l' J', HdY W w' l' (hB yb tb p c) Y' J' (n + 1) := by
  have hin := ycall_who (N := 1) (hCf yb tb p c) h.h h.ok hn (by rw [h.len]; rfl) 0 (by show 0 < 1; decide) take hkd 0 x 0 (.inl rfl) x0 x1
  refine hin.mono ?_
  rintro r w' ⟨l', J', Y1, h1, _, hm, ⟨_, _, a, h3⟩ | ⟨rfl, _, rfl⟩⟩
  · rw [hq] at h3
    cases h3
  · have e : Y.call 0 kd 0 x 0 (wkB (hB yb tb p c) 1 0 take 0 x 0) = Y' := hs
    have ho := h.ok.next hm hn h.h.fit
    rw [e] at h1 ho
    exact ⟨rfl, l', J', h1, ho, by rw [← e]; exact h.len⟩
end

end Go.Proofs.YtpfjommkjkbonaaGreat
