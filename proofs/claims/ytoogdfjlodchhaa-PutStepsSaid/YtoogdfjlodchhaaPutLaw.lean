/-
  What the laws on puts have in common: layouts, what the call holds, the document's example. No condition.
-/
import Derived.Test.YtoogdfjlodchhaaPutPure
namespace Go.Proofs.Ytoogdfjlodchhaa
open Go.RowKit
set_option linter.unusedVariables false

set_option maxHeartbeats 1000000 in
theorem conf4_at (a0 a1 a2 a3 : Int) (w : World) :
    Calls Try.prog 16 #[.int .i64 a0, .int .i64 a1, .int .i64 a2, .int .i64 a3] w fun r w' => r = .returned (cf (1 + a0 % 4) (1 + a1 % 4) (wrap64 ((IntKind.u64.wrap a2).tmod 5)) (a3 % 4)) ∧ Below w.heap.size w w' := by
  have e0 : bits .and .i64 a0 3 = a0 % 4 := by rw [show (3 : Int) = ((3 : Nat) : Int) from rfl, and_i64 a0 3 2 rfl (by decide)]; rfl
  have e1 : bits .and .i64 a1 3 = a1 % 4 := by rw [show (3 : Int) = ((3 : Nat) : Int) from rfl, and_i64 a1 3 2 rfl (by decide)]; rfl
  have e3 : bits .and .i64 a3 3 = a3 % 4 := by rw [show (3 : Int) = ((3 : Nat) : Int) from rfl, and_i64 a3 3 2 rfl (by decide)]; rfl
  go_enter Try.func16, Try.ntmps16
  go_wp2
  exact bodyPost_ret (v := cf (1 + a0 % 4) (1 + a1 % 4) (wrap64 ((IntKind.u64.wrap a2).tmod 5)) (a3 % 4)) (by simp [results, Try.results16, go_sem]) rfl ⟨rfl, below_new (Below.refl _ _) _⟩
theorem conf4_any (a0 a1 a2 a3 : Int) (w : World) :
    Calls Try.prog 16 #[.int .i64 a0, .int .i64 a1, .int .i64 a2, .int .i64 a3] w fun r w' => ∃ t s so d : Int, r = .returned (cf t s so d) ∧ 1 ≤ t ∧ t ≤ 4 ∧ 1 ≤ s ∧ s ≤ 4 ∧ 0 ≤ so ∧ so ≤ 4 ∧ 0 ≤ d ∧ d ≤ 3 ∧ Below w.heap.size w w' :=
  (conf4_at a0 a1 a2 a3 w).mono fun r w' ⟨h, hb⟩ => ⟨_, _, _, _, h, by omega, by omega, by omega, by omega, (src5 a2).1, (src5 a2).2, by omega, by omega, hb⟩

/-- At most as many steps. -/
theorem pmost_le {t s so d : Int} (t1 : 1 ≤ t) (t4 : t ≤ 4) (s1 : 1 ≤ s) (s4 : s ≤ 4) (d0 : 0 ≤ d) (d3 : d ≤ 3) : ∃ Q q : Nat, s * (t + 1) = (q : Int) ∧ s * (t + 1) + most t so d + 2 = (Q : Int) ∧ Q ≤ 27 ∧ q ≤ 20 ∧ (most t so d : Int) = ((Q - q - 2 : Nat) : Int) ∧ q + 3 ≤ Q := by
  have h1 := Int.mul_le_mul s4 (show t + 1 ≤ 5 by omega) (by omega) (by decide)
  have h2 := Int.mul_nonneg (show 0 ≤ s by omega) (show 0 ≤ t + 1 by omega)
  have h3 : 1 ≤ most t so d ∧ most t so d ≤ 5 := by
    unfold most
    repeat' split
    all_goals omega
  exact ⟨(s * (t + 1) + most t so d + 2).toNat, (s * (t + 1)).toNat, by omega, by omega, by omega, by omega, by omega, by omega⟩

set_option maxHeartbeats 2000000 in
theorem pmost_any (t s so d : Int) (t1 : 1 ≤ t) (t4 : t ≤ 4) (s1 : 1 ≤ s) (s4 : s ≤ 4) (d0 : 0 ≤ d) (d3 : d ≤ 3) (o0 : 0 ≤ so) (o4 : so ≤ 4) (Q : Nat) (hQ : s * (t + 1) + most t so d + 2 = (Q : Int)) (w : World) :
    Calls Try.prog 21 #[cf t s so d] w fun r w' => r = .returned (i64 Q) ∧ Below w.heap.size w w' := by
  obtain ⟨Q', q, h1, h2, h3, h4, h5, h6⟩ := pmost_le (so := so) t1 t4 s1 s4 d0 d3
  obtain rfl : Q' = Q := by omega
  obtain ⟨z, hz⟩ : ∃ z : Int, most t so d = z := ⟨_, rfl⟩
  have HQ := Lib.hid h1
  have HZ := Lib.hid hz
  have e2 : IntKind.i64.wrap (IntKind.i64.wrap ((q : Int) + z) + 2) = (Q' : Int) := by have a := IntWalk.i64_in ((q : Int) + z) (by omega); rw [a, IntWalk.i64_in _ (by omega)]; omega
  have E2 := Lib.hid e2
  have hc := fun W => clmost_any W t s so d t1 (by omega) s1 (by omega) (q : Int) h1 (by omega) (by omega)
  have hm := fun W => most_any W t s so d t1 (by omega) d0 (by omega) o0 o4
  rw [hz] at hm
  have HC := Lib.hid hc
  have HM := Lib.hid hm
  have hz5 : 0 ≤ z ∧ z ≤ 100 := by omega
  clear hc hm hz h1 h2 h5 e2
  go_enter Try.func21, Try.ntmps21
  go_wp2_with fail
  refine wp_region_seq ((0, true) :: (2, true) :: (1, false) :: (3, false) :: (4, true) :: (5, true) :: (6, true) :: []) (by kernel_rfl) (by kernel_rfl) (by kernel_rfl) (by decide) (fun _ _ _ _ _ h => h) (fun hHeld => ?_)
  repeat (first
    | (refine seq_take (v := ?_) rfl ?_ ?_ ?_; rotate_left 1; rfl; (focus (intro wS hSw; have hk := below_rule hSw; go_simp; first | done | with_reducible rfl)); (try simp only [Act.put, List.setIfInBounds_toArray, List.set_cons_zero, List.set_cons_succ]))
    | (refine seq_skip rfl ?_ ?_; rfl; (try simp only [Act.put, List.setIfInBounds_toArray, List.set_cons_zero, List.set_cons_succ]))
    | (refine seq_run rfl (fun K hK => ?_); go_simp; (try (first | (go_at_call 72; refine (HC.out _).mono ?_; rintro e w' ⟨rfl, hb'⟩) | (go_at_call 73; refine (HM.out _).mono ?_; rintro e w' ⟨rfl, hb'⟩))); (try go_wp2_with fail); refine hK.out _ _ ?_ ?_; (focus (first | exact below_step hHeld hb' | exact below_new hHeld _ | exact hHeld)); (try clear hb'); clear hHeld hK K; intro hHeld; (try simp only [Act.put, List.setIfInBounds_toArray, List.set_cons_zero, List.set_cons_succ])))
  first | refine seq_done ?_ | skip
  go_wp2
  go_ret
  exact ⟨ret_i64 E2.out, below_step (below_new (Below.refl _ _) _) hHeld⟩

def tPu (base b b1 b2 : Nat) (k : Pu) : Thing := ⟨fun w => IsPu w b b1 b2 k ∧ ∀ i, PuB b b1 b2 i → base ≤ i, PuB b b1 b2⟩
theorem tPu_ok (base b b1 b2 : Nat) (k : Pu) : (tPu base b b1 b2 k).Ok base :=
  ⟨fun _ _ _ h k hn => ⟨h.1.keep k (hn b (.inl rfl)) (hn b1 (.inr (.inl rfl))) (hn b2 (.inr (.inr rfl))), h.2⟩, fun _ i h hi => ⟨h.2 i hi, h.1.lt i hi⟩⟩

/-- Cells, a put, and what else the call holds. -/
def PuHold (W w : World) (p c : Nat) (v : Value) (C : List Int) (L : List Ev) (b b1 b2 : Nat) (k : Pu) (R : List Thing) : Prop :=
  Hold W w (tMem W.heap.size p c v C L :: tPu W.heap.size b b1 b2 k :: R)

section
variable {W w w' : World} {p c b b1 b2 : Nat} {v v' : Value} {C C' : List Int} {L L' : List Ev} {k k' : Pu} {R : List Thing}
theorem PuHold.mem (h : PuHold W w p c v C L b b1 b2 k R) : IsMem W.heap.size w p c v C L := Hold.has h 0 _ rfl
theorem PuHold.pu (h : PuHold W w p c v C L b b1 b2 k R) : IsPu w b b1 b2 k := (Hold.has h 1 _ rfl).1
theorem PuHold.later (h : PuHold W w p c v C L b b1 b2 k R) (e : Below w.heap.size w w') : PuHold W w' p c v C L b b1 b2 k R := Hold.later h e
theorem PuHold.size (h : PuHold W w p c v C L b b1 b2 k R) : W.heap.size ≤ w.heap.size := Hold.size h
theorem PuHold.below (h : PuHold W w p c v C L b b1 b2 k R) : Below W.heap.size W w := Hold.below h
theorem PuHold.store (h : PuHold W w p c v C L b b1 b2 k R) (t : Touched W.heap.size w w' p c v v' C' L') : PuHold W w' p c v' C' L' b b1 b2 k R := Hold.mem h 0 rfl t
/-- A step. -/
theorem PuHold.call {N : Nat} {m : Int} {nb hz : Nat} {now : Int} (h : PuHold W w p c v C L b b1 b2 k R) (hk : k.Ok N m nb hz C) (n0 : 0 ≤ now) (hL : L.length < 1000000000) :
    Calls Try.prog 34 #[pt b, pt p, i64 now] w fun r w' => r = .returned (i64 (k.step m nb hz C now).ph) ∧ ∃ v', PuHold W w' p c v' (k.cells N nb C now) (L ++ k.ev N nb hz C now) b b1 b2 (k.step m nb hz C now) R :=
  (pustep_any W.heap.size w b b1 b2 p c v C L k N m nb hz now hk n0 h.pu h.mem (Hold.free h 0 1 (by decide) rfl rfl) h.size hL).mono fun r w' ⟨hr, v', hd, hs⟩ =>
    ⟨hr, v', Hold.does h 0 1 (by decide) rfl rfl hd (tPu_ok _ _ _ _ _) ⟨hs, (Hold.has h 1 _ rfl).2⟩ (fun q hq => hq)⟩
theorem PuHold.begun (h : Hold W w [tMem W.heap.size p c v C L]) (e : Below w.heap.size w w') (hk : IsPu w' b b1 b2 k) (hb : ∀ i, PuB b b1 b2 i → w.heap.size ≤ i) : PuHold W w' p c v C L b b1 b2 k [] :=
  Hold.more h e (tPu_ok _ _ _ _ _) ⟨hk, fun i hi => Nat.le_trans h.size (hb i hi)⟩ hb
theorem puphase_at {b b1 b2 : Nat} {k : Pu} (x : Int) (hx : k.ph = x) (hT : IsPu w b b1 b2 k) : Calls Try.prog 41 #[pt b] w fun r w' => r = .returned (i64 x) ∧ w = w' := hx ▸ puphase_any w b b1 b2 k hT.obj
theorem puslot_at {b b1 b2 : Nat} {k : Pu} (x : Int) (hx : (if k.ph = 1 then k.cl.slot else -1) = x) (hT : IsPu w b b1 b2 k) : Calls Try.prog 36 #[pt b] w fun r w' => r = .returned (i64 x) ∧ w = w' := hx ▸ puslot_any w b b1 b2 k hT
theorem pustamp_at {b b1 b2 : Nat} {k : Pu} (x y : Int) (hp : k.ph = 1) (hx : k.tk.lo = x) (hy : k.tk.hi = y) (hT : IsPu w b b1 b2 k) : Calls Try.prog 37 #[pt b] w fun r w' => r = .returned (st x y) ∧ Below w.heap.size w w' := hx ▸ hy ▸ pustamp_yes w b b1 b2 k hp hT
end

/-- Steps one behind the other, at the times that they are counted by. -/
def runPu (N : Nat) (m : Int) (nb hz : Nat) : Nat → Pu → List Int → Pu × List Int
  | 0, k, C => (k, C)
  | i + 1, k, C => ((runPu N m nb hz i k C).1.step m nb hz (runPu N m nb hz i k C).2 i, (runPu N m nb hz i k C).1.cells N nb (runPu N m nb hz i k C).2 i)

def hPu : Pu := pu0 2 2 0 0 1 1 9 2
def hPC : List Int := List.replicate 12 0
theorem lay22p : Lay 2 2 4 := ⟨rfl, by omega, by omega, by omega, by omega, by omega, by omega, by omega⟩
theorem hPu_ok : hPu.Ok 4 2 10 8 hPC := pu0_ok lay22p rfl rfl rfl (by decide) (by decide) rfl (by decide) (by decide) (by decide) (by decide) (by decide) (by decide) (by decide) (by decide) (by decide) (by decide)

set_option maxRecDepth 100000 in
set_option maxHeartbeats 8000000 in
theorem head10_any (w : World) : Calls Try.prog 15 #[] w fun r w' => r = .returned (.bool true) ∧ Below w.heap.size w w' := by
  have hA := AtC.made w 2 2 0 0
  have hB0 : Below w.heap.size w (w.alloc (.cells #[.int .i64 2, .int .i64 2, .int .i64 0, .int .i64 0] 29)) := below_new (Below.refl _ _) _
  have hs0 : w.heap.size + 1 = (w.alloc (.cells #[.int .i64 2, .int .i64 2, .int .i64 0, .int .i64 0] 29)).heap.size := by simp
  have HA := Lib.hid hA
  have HB0 := Lib.hid hB0
  have Hs0 := Lib.hid hs0
  clear hA hB0 hs0
  go_enter Try.func15, Try.ntmps15
  go_wp2_with fail
  generalize hW : w.alloc (.cells #[.int .i64 2, .int .i64 2, .int .i64 0, .int .i64 0] 29) = W at HA HB0 Hs0 ⊢
  clear hW
  refine (ccells_any 2 2 0 0 4 _ lay22p).mono ?_
  rintro r w1 ⟨rfl, hb1⟩
  go_wp2_with fail
  refine (new_nat W.heap.size 12 12 _ hb1.size (by decide) (.inl rfl)).mono ?_
  rintro r w2 ⟨p, c, rfl, hM2, hb2, hp, hc⟩
  have HH0 := Lib.hid (Hold.cells hb1 hM2 hb2 hp hc)
  clear hM2 hb2 hp hc hb1
  obtain ⟨q0, q1, q2, q3⟩ := HA.out.later HH0.out.below (by have := Hs0.out; omega)
  go_wp2_with fail
  refine (punew_any _ 4 2 2 2 0 0 1 1 9 lay22p (by decide) (by decide) rfl (by decide) (by decide)).mono ?_
  rintro r w3 ⟨b, b1, b2, rfl, hS3, hb3, hbb⟩
  have HH1 : Hid (PuHold W w3 p c (.slice none 0 0) hPC [] b b1 b2 hPu []) := PuHold.begun HH0.out hb3 hS3 hbb
  clear hS3 hb3 hbb HH0 q0 q1 q2 q3
  have phP : Hid (∀ q, q ≤ 4 → (runPu 4 2 10 8 q hPu hPC).1.ph = if q < 4 then 0 else 1) := by show ∀ q, q ≤ 4 → _; decide
  go_wp2_with fail
  go_loopw [4] (fun i wr => ∃ (q : Nat) (v : Value) (L : List Ev), q ≤ 4 ∧ i = .int .i64 q ∧ Hid (PuHold W wr p c v (runPu 4 2 10 8 q hPu hPC).2 L b b1 b2 (runPu 4 2 10 8 q hPu hPC).1 []) ∧ Hid (L.length ≤ q) ∧ Hid ((runPu 4 2 10 8 q hPu hPC).1.Ok 4 2 10 8 (runPu 4 2 10 8 q hPu hPC).2)) (fun i _ => 9 - (intOf i).toNat)
  case atStart => exact ⟨0, _, [], by omega, rfl, HH1, Nat.le_refl _, hPu_ok⟩
  case round =>
    clear HH1
    obtain ⟨q, v, L, hq, rfl, HH, HL, HK⟩ := hrel
    have hph := phP.out q hq
    rcases Nat.lt_or_ge q 4 with hq3 | hq3
    · rw [if_pos hq3] at hph
      have hst := HH.out.call (now := (q : Int)) HK.out (by omega) (by have := HL.out; omega)
      have HST := Lib.hid hst
      have HP1 := Lib.hid hph
      clear hst hph
      have hq9 : (q : Int) < 20 := by omega
      go_wp2_with fail
      refine (puphase_at 0 HP1.out HH.out.pu).mono ?_
      rintro r wr2 ⟨rfl, rfl⟩
      go_wp2_with fail
      refine HST.out.mono ?_
      rintro r w10 ⟨rfl, v10, hH⟩
      have HH2 := Lib.hid hH
      have HL2 := Lib.hid (Pu.ev_le (runPu 4 2 10 8 q hPu hPC).1 4 10 8 (runPu 4 2 10 8 q hPu hPC).2 q)
      have HK2 := Lib.hid ((HK.out.next_ (now := (q : Int)) (by omega) HH.out.mem.nn).1.cells (Pu.cells_len (runPu 4 2 10 8 q hPu hPC).1 4 10 (runPu 4 2 10 8 q hPu hPC).2 q))
      clear HK
      clear hH
      go_wp2_with fail
      go_roundw
      case rel => exact ⟨q + 1, v10, _, by omega, by go_num, HH2, by have := HL.out; have := HL2.out; show _ ≤ _; rw [List.length_append]; omega, HK2⟩
      case measure => first | omega | (simp [intOf]; done) | (simp [intOf]; omega)
    · obtain rfl : q = 4 := by omega
      have hph : (runPu 4 2 10 8 4 hPu hPC).1.ph = 1 := by decide
      have hsl : (if (runPu 4 2 10 8 4 hPu hPC).1.ph = 1 then (runPu 4 2 10 8 4 hPu hPC).1.cl.slot else -1) = 2 := by decide
      have hlo : (runPu 4 2 10 8 4 hPu hPC).1.tk.lo = 0 := by decide
      have hhi : (runPu 4 2 10 8 4 hPu hPC).1.tk.hi = 0 := by decide
      have hCC : (runPu 4 2 10 8 4 hPu hPC).2 = [0, 0, 13, 0, 0, 0, 9, 0, 0, 0, 1, 0] := by decide
      have HM : Hid (IsMem W.heap.size wr p c v [0, 0, 13, 0, 0, 0, 9, 0, 0, 0, 1, 0] L) := hCC ▸ HH.out.mem
      have HU := Lib.hid HH.out.pu
      have HB := Lib.hid HH.out.below
      obtain ⟨uN, hu⟩ : ∃ u : Pu, (runPu 4 2 10 8 4 hPu hPC).1 = u := ⟨_, rfl⟩
      rw [hu] at hph hsl hlo hhi HU
      have H1 := Lib.hid hph
      have H2 := Lib.hid hsl
      have H3 := Lib.hid hlo
      have H4 := Lib.hid hhi
      clear hph hsl hlo hhi hCC hu hq3 HH phP HK
      go_wp2_with fail
      refine (puphase_at 1 H1.out HU.out).mono ?_
      rintro r wr2 ⟨rfl, rfl⟩
      go_wp2_with fail
      refine (puphase_at 1 H1.out HU.out).mono ?_
      rintro r wr2 ⟨rfl, rfl⟩
      go_wp2_with fail
      refine (puslot_at 2 H2.out HU.out).mono ?_
      rintro r wr2 ⟨rfl, rfl⟩
      go_wp2_with fail
      refine (pustamp_at 0 0 H1.out H3.out H4.out HU.out).mono ?_
      rintro r w4 ⟨rfl, hb4⟩
      have HM1 := Lib.hid (HM.out.later hb4)
      have HB1 := Lib.hid (below_step' HB.out hb4 HB.out.size)
      clear hb4
      obtain ⟨q0, q1, q2, q3⟩ := HA.out.later HB1.out (by have := Hs0.out; omega)
      go_wp2_with fail
      refine (pvalue_at 2 2 0 0 4 2 6 _ lay22p (by decide) (by decide) rfl).mono ?_
      rintro r w5 ⟨rfl, hb5⟩
      have HM2 := Lib.hid (HM1.out.later hb5)
      have HB2 := Lib.hid (below_step' HB1.out hb5 HB1.out.size)
      clear hb5 q0 q1 q2 q3
      go_wp2_with fail
      refine (peek_in W.heap.size _ p c _ _ _ 6 9 HM2.out rfl).mono ?_
      rintro r wr2 ⟨rfl, rfl⟩
      obtain ⟨q0, q1, q2, q3⟩ := HA.out.later HB2.out (by have := Hs0.out; omega)
      go_wp2_with fail
      refine (pword_at 2 2 0 0 2 2 _ rfl).mono ?_
      rintro r w6 ⟨rfl, hb6⟩
      have HM3 := Lib.hid (HM2.out.later hb6)
      have HB3 := Lib.hid (below_step' HB2.out hb6 HB2.out.size)
      clear hb6 q0 q1 q2 q3
      go_wp2_with fail
      refine (peek_in W.heap.size _ p c _ _ _ 2 13 HM3.out rfl).mono ?_
      rintro r wr2 ⟨rfl, rfl⟩
      go_wp2_with fail
      refine (pack_at 1 1 1 0 0 13 _ (by decide) (by decide)).mono ?_
      rintro r w7 ⟨rfl, hb7⟩
      have HB4 := Lib.hid (below_step' HB3.out hb7 HB3.out.size)
      clear hb7
      go_wp2_with fail
      go_ret
      exact ⟨rfl, below_step' HB0.out HB4.out (by have := Hs0.out; omega)⟩

end Go.Proofs.Ytoogdfjlodchhaa
