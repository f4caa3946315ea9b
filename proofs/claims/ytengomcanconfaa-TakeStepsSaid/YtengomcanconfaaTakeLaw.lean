/-
  What the laws on taking have in common: the document's example, layouts, several things held. No condition.
-/
import Derived.Test.YtengomcanconfaaTakeStep
import Derived.Test.YtengomcanconfaaRows2
import Derived.Test.YtengomcanconfaaWalkMemSizes
namespace Go.Proofs.Ytengomcanconfaa
open Go.RowKit
set_option linter.unusedVariables false

theorem fld0 (s e g lo hi : Int) (w : World) : (Instr.field 27 (wd s e g lo hi) 0).run Try.prog w = .ok (i64 s) w := by
  simp [Instr.field, go_sem, asAgg, Try.underlying27]
attribute [local go_sem ↓] fld0

theorem lay44 {t s : Int} (t1 : 1 ≤ t) (t2 : t ≤ 4) (s1 : 1 ≤ s) (s2 : s ≤ 4) : ∃ N : Nat, t * s = (N : Int) ∧ Lay t s N ∧ 1 ≤ N ∧ N ≤ 16 := by
  have h := Lay.mk' t1 (by omega : t ≤ 64) s1 (by omega : s ≤ 64)
  have h2 := Int.mul_le_mul t2 s2 (by omega) (by omega)
  have hn := h.n1
  refine ⟨(t * s).toNat, by omega, ?_, by omega, by omega⟩
  rw [Int.toNat_of_nonneg (by omega)]
  exact h
theorem lay11 : Lay 1 1 1 := ⟨rfl, by omega, by omega, by omega, by omega, by omega, by omega, by omega⟩

theorem Hold.sel {W w : World} {l l' : List Thing} (h : Hold W w l) (f : Nat → Nat) (hf : ∀ (i : Nat) (A : Thing), l'[i]? = some A → l[f i]? = some A) (hi : ∀ i j, i < l'.length → j < l'.length → f i = f j → i = j) : Hold W w l' :=
  ⟨h.size, h.below, fun i A hA => h.ok _ A (hf i A hA), fun i A hA => h.has _ A (hf i A hA), fun i j A B hA hB hne => h.apart _ _ A B (hf i A hA) (hf j B hB) (fun e => hne (hi i j (List.getElem?_eq_some_iff.1 hA).1 (List.getElem?_eq_some_iff.1 hB).1 e))⟩
theorem Hold.swap {W w : World} {a b c : Thing} (h : Hold W w [a, b, c]) : Hold W w [a, c, b] :=
  h.sel (fun i => if i = 1 then 2 else if i = 2 then 1 else i) (fun i A hA => by
    rcases i with _ | _ | _ | i
    · exact hA
    · exact hA
    · exact hA
    · simp at hA) (fun i j hi hj e => by
    simp only [List.length_cons, List.length_nil] at hi hj
    rcases (by omega : i = 0 ∨ i = 1 ∨ i = 2) with rfl | rfl | rfl <;> rcases (by omega : j = 0 ∨ j = 1 ∨ j = 2) with rfl | rfl | rfl <;> simp at e ⊢)

theorem Hold.cells {W w w' : World} {p c n : Nat} (hB : Below W.heap.size W w) (hM : IsMem W.heap.size w' p c (.slice none 0 0) (List.replicate n 0) []) (e : Below w.heap.size w w') (hp : w.heap.size ≤ p) (hc : w.heap.size ≤ c) :
    Hold W w' [tMem W.heap.size p c (.slice none 0 0) (List.replicate n 0) []] :=
  (Hold.nil hB).more e (tMem_ok _ _ _ _ _ _) hM (fun q hq => by
    rcases hq with rfl | rfl | hq
    · exact hp
    · exact hc
    · cases hq)

theorem taphase_at {w : World} {b : Nat} {k : Ta} (x : Int) (hx : k.ph = x) (hT : IsObj w b k.list) : Calls Try.prog 25 #[pt b] w fun r w' => r = .returned (i64 x) ∧ w = w' :=
  hx ▸ tphase_any w b k.t k.s k.so k.d k.who k.slot k.word k.value k.next k.ph k.lost hT
theorem tavalue_at {w : World} {b : Nat} {k : Ta} (x : Int) (hx : (if k.ph = 1 then k.value else 0) = x) (hT : IsObj w b k.list) : Calls Try.prog 24 #[pt b] w fun r w' => r = .returned (u64 x) ∧ w = w' :=
  hx ▸ tvalue_any w b k.t k.s k.so k.d k.who k.slot k.word k.value k.next k.ph k.lost hT

/-- Steps one behind the other, nobody else does anything. -/
def runTa (j jv hz : Nat) : Nat → Ta → List Int → Ta × List Int
  | 0, k, C => (k, C)
  | i + 1, k, C => let y := runTa j jv hz i k C; (y.1.go j jv y.2, y.1.cells j hz y.2)
theorem runTa_ok {n : Int} {j jv hz : Nat} {k : Ta} {C : List Int} (h : k.Ok n j jv hz C) : ∀ i, (runTa j jv hz i k C).1.Ok n j jv hz (runTa j jv hz i k C).2 ∧ (runTa j jv hz i k C).2.length = C.length
  | 0 => ⟨h, rfl⟩
  | i + 1 => by
    obtain ⟨h1, h2⟩ := runTa_ok h i
    have h3 := Ta.cells_len (runTa j jv hz i k C).1 j hz (runTa j jv hz i k C).2
    exact ⟨h1.next h3, h3.trans h2⟩

section
variable {W w w' : World} {p c b : Nat} {v v' : Value} {L : List Ev} {R : List Thing} {k0 : Ta} {C0 : List Int}
/-- A step alone. -/
theorem TaHold.run {n : Int} {j jv hz i : Nat} (h : TaHold W w p c v (runTa j jv hz i k0 C0).2 L b (runTa j jv hz i k0 C0).1 R) (hk : k0.Ok n j jv hz C0) (hL : L.length < 1000000000) :
    Calls Try.prog 20 #[pt b, pt p] w fun r w' => r = .returned (i64 (runTa j jv hz (i + 1) k0 C0).1.ph) ∧ ∃ v' L', TaHold W w' p c v' (runTa j jv hz (i + 1) k0 C0).2 L' b (runTa j jv hz (i + 1) k0 C0).1 R ∧ L'.length ≤ L.length + 1 :=
  (h.call (runTa_ok hk i).1 hL).mono fun r w' ⟨hr, v', hh⟩ => ⟨hr, v', _, hh, by rw [List.length_append]; have := Ta.ev_le (runTa j jv hz i k0 C0).1 j jv hz (runTa j jv hz i k0 C0).2; omega⟩
end

/-- The document's example: the cells, and two takes of which the one has another word. -/
def hC : List Int := [9, 7, 0, 0]
def hU : Ta := ta0 1 1 0 0 0 0 17
def hT : Ta := ta0 1 1 0 0 0 0 9

set_option maxRecDepth 100000 in
set_option maxHeartbeats 8000000 in
theorem head9_any (w : World) : Calls Try.prog 7 #[] w fun r w' => r = .returned (.bool true) ∧ Below w.heap.size w w' := by
  have hA := AtC.made w 1 1 0 0
  have hB0 : Below w.heap.size w (w.alloc (.cells #[.int .i64 1, .int .i64 1, .int .i64 0, .int .i64 0] 33)) := below_new (Below.refl _ _) _
  have hs0 : w.heap.size + 1 = (w.alloc (.cells #[.int .i64 1, .int .i64 1, .int .i64 0, .int .i64 0] 33)).heap.size := by simp
  have HA := Lib.hid hA
  have HB0 := Lib.hid hB0
  have Hs0 := Lib.hid hs0
  have hp := fun W => pack_right 1 0 1 0 0 W (by decide)
  simp only [show (1 : Int) + 4 * 0 + 8 * 1 + 65536 * 0 + 1099511627776 * 0 = 9 from rfl] at hp
  have HP := Lib.hid hp
  clear hA hB0 hs0 hp
  go_enter Try.func7, Try.ntmps7
  go_wp2_with fail
  generalize hW : w.alloc (.cells #[.int .i64 1, .int .i64 1, .int .i64 0, .int .i64 0] 33) = W at HA HB0 Hs0 ⊢
  clear hW
  refine (ccells_any 1 1 0 0 1 _ lay11).mono ?_
  rintro r w1 ⟨rfl, hb1⟩
  go_wp2_with fail
  refine (new_nat W.heap.size 4 4 _ hb1.size (by decide) (.inl rfl)).mono ?_
  rintro r w2 ⟨p, c, rfl, hM2, hb2, hp, hc⟩
  have HH0 := Lib.hid (Hold.cells hb1 hM2 hb2 hp hc)
  clear hM2 hb2 hp hc hb1
  go_wp2_with fail
  refine (HP.out _).mono ?_
  rintro r w3 ⟨rfl, hb3⟩
  have HH1 := Lib.hid (HH0.out.later hb3)
  obtain ⟨q0, q1, q2, q3⟩ := HA.out.later HH1.out.below (by have := Hs0.out; omega)
  clear hb3 HH0
  go_wp2_with fail
  refine (word_at 1 1 0 0 0 0 _ rfl).mono ?_
  rintro r w4 ⟨rfl, hb4⟩
  have HH2 := Lib.hid (HH1.out.later hb4)
  clear hb4 HH1 q0 q1 q2 q3
  go_wp2_with fail
  refine (store_in W.heap.size _ p c _ _ _ 0 0 0 9 (Hold.has HH2.out 0 _ rfl) rfl HH2.out.size (by decide) (by decide) (by decide)).mono ?_
  rintro r w5 ⟨rfl, v5, hT5⟩
  have HH3 := Lib.hid (HH2.out.mem 0 rfl hT5)
  clear hT5 HH2
  obtain ⟨q0, q1, q2, q3⟩ := HA.out.later HH3.out.below (by have := Hs0.out; omega)
  go_wp2_with fail
  refine (value_at 1 1 0 0 1 0 1 _ lay11 (by decide) (by decide) rfl).mono ?_
  rintro r w6 ⟨rfl, hb6⟩
  have HH4 := Lib.hid (HH3.out.later hb6)
  clear hb6 HH3 q0 q1 q2 q3
  go_wp2_with fail
  refine (store_in W.heap.size _ p c _ _ _ 0 1 0 7 (Hold.has HH4.out 0 _ rfl) rfl HH4.out.size (by decide) (by decide) (by decide)).mono ?_
  rintro r w7 ⟨rfl, v7, hT7⟩
  obtain ⟨L0, hL0, hLl⟩ : ∃ L0 : List Ev, ([] ++ [⟨0, 1, ((0 : Nat) : Int), 0, 9, true⟩] ++ [⟨0, 1, ((1 : Nat) : Int), 0, 7, true⟩] : List Ev) = L0 ∧ L0.length ≤ 2 := ⟨_, rfl, by decide⟩
  have HH5 : Hid (Hold W w7 [tMem W.heap.size p c v7 hC L0]) := by have := HH4.out.mem 0 rfl hT7; rw [← hL0]; exact this
  clear hT7 HH4 hL0
  obtain ⟨q0, q1, q2, q3⟩ := HA.out.later HH5.out.below (by have := Hs0.out; omega)
  go_wp2_with fail
  refine (tanew_any _ 1 1 0 0 0 0 9).mono ?_
  rintro r w8 ⟨b, rfl, hS8, hb8, hbb8⟩
  have HH6 : Hid (TaHold W w8 p c v7 hC L0 b hT []) := TaHold.begun HH5.out hb8 hS8 hbb8
  clear hS8 hb8 hbb8 HH5 q0 q1 q2 q3
  obtain ⟨q0, q1, q2, q3⟩ := HA.out.later HH6.out.below (by have := Hs0.out; omega)
  go_wp2_with fail
  refine (tanew_any _ 1 1 0 0 0 0 17).mono ?_
  rintro r w9 ⟨g, rfl, hS9, hb9, hbb9⟩
  have HH7 : Hid (TaHold W w9 p c v7 hC L0 g hU [tObj W.heap.size b hT.list]) :=
    Hold.swap (Hold.more (l := [tMem W.heap.size p c v7 hC L0, tObj W.heap.size b hT.list]) HH6.out hb9 (tObj_ok _ _ _) ⟨hS9, Nat.le_trans HH6.out.size hbb9⟩ (fun q hq => by cases hq; exact hbb9))
  have HL := Lib.hid hLl
  clear hS9 hb9 hbb9 HH6 q0 q1 q2 q3 hLl
  have okU : Hid (hU.Ok 1 0 1 2 hC) := ⟨lay11, rfl, by decide, by decide, by decide, by decide, rfl, rfl, rfl, by decide, by decide, fun _ => .inl ⟨rfl, rfl⟩⟩
  have okT : Hid (∀ C : List Int, C.length = 4 → hT.Ok 1 0 1 2 C) := fun C hC => ⟨lay11, by rw [hC]; rfl, by decide, by decide, by decide, by decide, rfl, rfl, rfl, by decide, by decide, fun _ => .inl ⟨rfl, rfl⟩⟩
  have phU : Hid (∀ q, q ≤ 3 → (runTa 0 1 2 q hU hC).1.ph = if q < 3 then 0 else 2) := by show ∀ q, q ≤ 3 → _; decide
  go_wp2_with fail
  go_loopw [6] (fun i wr => ∃ (q : Nat) (v : Value) (L : List Ev), q ≤ 3 ∧ i = .int .i64 q ∧ Hid (TaHold W wr p c v (runTa 0 1 2 q hU hC).2 L g (runTa 0 1 2 q hU hC).1 [tObj W.heap.size b hT.list]) ∧ Hid (L.length ≤ 2 + q)) (fun i _ => 9 - (intOf i).toNat)
  case atStart => exact ⟨0, v7, L0, by omega, rfl, HH7, HL⟩
  case round =>
    clear HH7 HL
    obtain ⟨q, v, L, hq, rfl, HH, HL⟩ := hrel
    have hph := phU.out q hq
    rcases Nat.lt_or_ge q 3 with hq3 | hq3
    · rw [if_pos hq3] at hph
      have hst := HH.out.run okU.out (by have := HL.out; omega)
      have hph2 := phU.out (q + 1) (by omega)
      have HST := Lib.hid hst
      have HP1 := Lib.hid hph
      clear hst hph hph2
      have hq9 : (q : Int) < 9 := by omega
      go_wp2_with fail
      refine (taphase_at 0 HP1.out HH.out.obj).mono ?_
      rintro r wr2 ⟨rfl, rfl⟩
      go_wp2_with fail
      refine HST.out.mono ?_
      rintro r w10 ⟨rfl, v10, L10, hH, hL10⟩
      have HH2 := Lib.hid hH
      clear hH
      go_wp2_with fail
      go_roundw
      case rel => exact ⟨q + 1, v10, L10, by omega, by go_num, HH2, by have := HL.out; show _ ≤ _; omega⟩
      case measure => first | omega | (simp [intOf]; done) | (simp [intOf]; omega)
    · obtain rfl : q = 3 := by omega
      have hph : (runTa 0 1 2 3 hU hC).1.ph = 2 := by decide
      have HP1 := Lib.hid hph
      have HT1 : Hid (TaHold W wr p c v [9, 7, 0, 0] L b hT [tObj W.heap.size g (runTa 0 1 2 3 hU hC).1.list]) := Hold.swap HH.out
      have HU1 := Lib.hid HH.out.obj
      clear hph hq3 HH phU
      go_wp2_with fail
      refine (taphase_at 2 HP1.out HU1.out).mono ?_
      rintro r wr2 ⟨rfl, rfl⟩
      clear HU1
      obtain ⟨uN, hu⟩ : ∃ u : Ta, (runTa 0 1 2 3 hU hC).1 = u := ⟨_, rfl⟩
      rw [hu] at HT1 HP1
      clear hu
      have phT : Hid (∀ q, q ≤ 5 → (runTa 0 1 2 q hT [9, 7, 0, 0]).1.ph = if q < 5 then 0 else 1) := by show ∀ q, q ≤ 5 → _; decide
      go_wp2_with fail
      go_loopw [7] (fun i wr => ∃ (q : Nat) (v : Value) (L : List Ev), q ≤ 5 ∧ i = .int .i64 q ∧ Hid (TaHold W wr p c v (runTa 0 1 2 q hT [9, 7, 0, 0]).2 L b (runTa 0 1 2 q hT [9, 7, 0, 0]).1 [tObj W.heap.size g uN.list]) ∧ Hid (L.length ≤ 5 + q)) (fun i _ => 9 - (intOf i).toNat)
      case atStart => exact ⟨0, v, L, by omega, rfl, HT1, HL⟩
      case round =>
        clear HT1 HL
        obtain ⟨q, v, L, hq, rfl, HH, HL⟩ := hrel
        have hph := phT.out q hq
        rcases Nat.lt_or_ge q 5 with hq5 | hq5
        · rw [if_pos hq5] at hph
          have hst := HH.out.run (okT.out [9, 7, 0, 0] rfl) (by have := HL.out; omega)
          have HST := Lib.hid hst
          have HP2 := Lib.hid hph
          clear hst hph
          have hq9 : (q : Int) < 9 := by omega
          go_wp2_with fail
          refine (taphase_at 0 HP2.out HH.out.obj).mono ?_
          rintro r wr2 ⟨rfl, rfl⟩
          go_wp2_with fail
          refine HST.out.mono ?_
          rintro r w10 ⟨rfl, v10, L10, hH, hL10⟩
          have HH2 := Lib.hid hH
          clear hH
          go_wp2_with fail
          go_roundw
          case rel => exact ⟨q + 1, v10, L10, by omega, by go_num, HH2, by have := HL.out; show _ ≤ _; omega⟩
          case measure => first | omega | (simp [intOf]; done) | (simp [intOf]; omega)
        · obtain rfl : q = 5 := by omega
          have HP2 : Hid ((runTa 0 1 2 5 hT [9, 7, 0, 0]).1.ph = 1) := by show _ = _; decide
          have HV2 : Hid ((if (runTa 0 1 2 5 hT [9, 7, 0, 0]).1.ph = 1 then (runTa 0 1 2 5 hT [9, 7, 0, 0]).1.value else 0) = 7) := by show _ = _; decide
          have HO := Lib.hid HH.out.obj
          have HM : Hid (IsMem W.heap.size wr p c v [10, 7, 0, 0] L) := HH.out.mem
          have HG : Hid (IsObj wr g uN.list) := (Hold.has HH.out 2 _ rfl).1
          have HB := Lib.hid HH.out.below
          clear hph hq5 HH phT
          go_wp2_with fail
          refine (taphase_at 1 HP2.out HO.out).mono ?_
          rintro r wr2 ⟨rfl, rfl⟩
          go_wp2_with fail
          refine (taphase_at 2 HP1.out HG.out).mono ?_
          rintro r wr2 ⟨rfl, rfl⟩
          go_wp2_with fail
          refine (taphase_at 1 HP2.out HO.out).mono ?_
          rintro r wr2 ⟨rfl, rfl⟩
          go_wp2_with fail
          refine (tavalue_at 7 HV2.out HO.out).mono ?_
          rintro r wr2 ⟨rfl, rfl⟩
          obtain ⟨q0, q1, q2, q3⟩ := HA.out.later HB.out (by have := Hs0.out; omega)
          go_wp2_with fail
          refine (word_at 1 1 0 0 0 0 _ rfl).mono ?_
          rintro r w11 ⟨rfl, hb11⟩
          have HM2 := Lib.hid (HM.out.later hb11)
          have HB2 := Lib.hid (below_step' HB.out hb11 HB.out.size)
          clear hb11 q0 q1 q2 q3
          go_wp2_with fail
          refine (peek_in W.heap.size _ p c _ _ _ 0 10 HM2.out rfl).mono ?_
          rintro r wr2 ⟨rfl, rfl⟩
          go_wp2_with fail
          refine (unpack_any 10 _ (by decide) (by decide)).mono ?_
          rintro r w12 ⟨rfl, hb12⟩
          have HB3 := Lib.hid (below_step' HB2.out hb12 HB2.out.size)
          clear hb12
          simp only [show (10 : Int) % 4 = 2 from rfl]
          go_wp2_with fail
          go_ret
          exact ⟨rfl, below_step' HB0.out HB3.out (by have := Hs0.out; omega)⟩

end Go.Proofs.Ytengomcanconfaa
