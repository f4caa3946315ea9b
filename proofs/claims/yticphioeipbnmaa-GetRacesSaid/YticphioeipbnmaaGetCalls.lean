/-
  Contracts of package get; what a step of it does is told as a function on plain data, but for what stands at the end, which is told as pick tells it. No condition but that numbers fit their kinds.
-/
import Derived.Test.YticphioeipbnmaaSnapStep
import Derived.Test.YticphioeipbnmaaTakeStep
import Derived.Test.YticphioeipbnmaaPickRow
import Derived.Test.YticphioeipbnmaaMore
namespace Go.Proofs.Yticphioeipbnmaa
open Go.RowKit
set_option linter.unusedVariables false

/-- A get under way: its own cells, its snap, its take (if there is one). -/
structure Ge where
  t : Int
  s : Int
  so : Int
  d : Int
  who : Int
  e : Int
  start : Int
  tries : Int
  ph : Int
  sn : Sn
  ta : Option Ta

def tpt : Option Nat → Value
  | none => .pointer none
  | some b => pt b

abbrev Ge.list (k : Ge) (bs : Nat) (bt : Option Nat) : List Value := [i64 k.t, i64 k.s, i64 k.so, i64 k.d, i64 k.who, i64 k.e, i64 k.start, pt bs, tpt bt, i64 k.tries, i64 k.ph]

/-- The cells that are never stored. -/
structure AtGe (w : World) (b : Nat) (k : Ge) : Prop where
  c0 : w.cell? ⟨b, 0, none⟩ = some (i64 k.t)
  c1 : w.cell? ⟨b, 1, none⟩ = some (i64 k.s)
  c2 : w.cell? ⟨b, 2, none⟩ = some (i64 k.so)
  c3 : w.cell? ⟨b, 3, none⟩ = some (i64 k.d)
  c4 : w.cell? ⟨b, 4, none⟩ = some (i64 k.who)
  c5 : w.cell? ⟨b, 5, none⟩ = some (i64 k.e)
  c6 : w.cell? ⟨b, 6, none⟩ = some (i64 k.start)
theorem IsObj.ge {w : World} {b bs : Nat} {bt : Option Nat} {k : Ge} (h : IsObj w b (k.list bs bt)) : AtGe w b k :=
  ⟨h.at' 0 _ rfl, h.at' 1 _ rfl, h.at' 2 _ rfl, h.at' 3 _ rfl, h.at' 4 _ rfl, h.at' 5 _ rfl, h.at' 6 _ rfl⟩

theorem AtGe.to {w : World} {b : Nat} {k : Ge} (h : AtGe w b k) (k' : Ge) (e0 : k.t = k'.t) (e1 : k.s = k'.s) (e2 : k.so = k'.so) (e3 : k.d = k'.d) (e4 : k.who = k'.who) (e5 : k.e = k'.e) (e6 : k.start = k'.start) : AtGe w b k' :=
  ⟨e0 ▸ h.c0, e1 ▸ h.c1, e2 ▸ h.c2, e3 ▸ h.c3, e4 ▸ h.c4, e5 ▸ h.c5, e6 ▸ h.c6⟩

def GeB (b bs gs : Nat) (bt : Option Nat) (i : Nat) : Prop := i = b ∨ i = bs ∨ i = gs ∨ bt = some i

/-- Where it lies. -/
structure IsGe (base : Nat) (w : World) (b bs gs : Nat) (bt : Option Nat) (k : Ge) : Prop where
  obj : IsObj w b (k.list bs bt)
  sn : IsSn base w bs gs k.sn
  ta : (bt = none ∧ k.ta = none) ∨ ∃ x a, bt = some x ∧ k.ta = some a ∧ IsObj w x a.list ∧ base ≤ x
  bb : base ≤ b
  n1 : b ≠ bs
  n2 : b ≠ gs
  n3 : ∀ x, bt = some x → x ≠ b ∧ x ≠ bs ∧ x ≠ gs

section
variable {base : Nat} {w w' : World} {b bs gs : Nat} {bt : Option Nat} {k : Ge}
theorem IsGe.keep {T : Nat → Prop} (h : IsGe base w b bs gs bt k) (e : Keep T w w') (hn : ∀ i, GeB b bs gs bt i → ¬ T i) : IsGe base w' b bs gs bt k := by
  refine ⟨h.obj.keep e (hn b (.inl rfl)), h.sn.keep e (hn bs (.inr (.inl rfl))) (hn gs (.inr (.inr (.inl rfl)))), ?_, h.bb, h.n1, h.n2, h.n3⟩
  rcases h.ta with h1 | ⟨x, a, h1, h2, h3, h4⟩
  · exact .inl h1
  · exact .inr ⟨x, a, h1, h2, h3.keep e (hn x (.inr (.inr (.inr h1)))), h4⟩
theorem IsGe.later (h : IsGe base w b bs gs bt k) (e : Below w.heap.size w w') : IsGe base w' b bs gs bt k := h.keep (T := fun _ => False) (Keep.of_below e) (fun _ _ h => h)
theorem IsGe.drew (h : IsGe base w b bs gs bt k) : IsGe base w.drew b bs gs bt k := h.later (Below.refl _ _).drew
theorem IsGe.lt (h : IsGe base w b bs gs bt k) : ∀ i, GeB b bs gs bt i → base ≤ i ∧ i < w.heap.size := by
  rintro i (rfl | rfl | rfl | hi)
  · exact ⟨h.bb, h.obj.lt⟩
  · exact ⟨h.sn.bb, h.sn.obj.lt⟩
  · exact h.sn.gb
  · rcases h.ta with ⟨h1, _⟩ | ⟨x, a, h1, h2, h3, h4⟩
    · rw [h1] at hi
      cases hi
    · rw [h1] at hi
      cases hi
      exact ⟨h4, h3.lt⟩
end

theorem Does.wideG {B B' : Nat → Prop} {base : Nat} {w w1 : World} {p c : Nat} {v v1 : Value} {C1 : List Int} {L1 : List Ev} (h : Does B base w w1 p c v v1 C1 L1) (hB : ∀ i, B i → B' i) (ha : ∀ i, B' i → ¬ Foot p c v i) (hlt : ∀ i, B' i → i < w.heap.size) : Does B' base w w1 p c v v1 C1 L1 :=
  ⟨h.mem, fun i hi hf => by
    rcases hf with h1 | h1 | h1
    · exact ha i hi (.inl h1)
    · exact ha i hi (.inr (.inl h1))
    · rcases h.moved i h1 with h2 | h2
      · exact ha i hi (.inr (.inr h2))
      · have := hlt i hi
        omega, h.keep.mono (fun i hi => hi.imp (hB i) id), h.moved, h.size⟩

theorem pickat_at (W : World) (a : Option Addr) (cap : Nat) (ws : List Int) (n : Nat) (e : Int) (he : e = 0 ∨ e = 1) (hW : IsWs W a ws) (hn : ws.length = n) (hn2 : n ≤ 1000000) :
    Calls Try.prog 53 #[.slice a n cap, i64 e] W fun r w' => ∃ z : Int, r = .returned (i64 z) ∧ IsEnd ws e z ∧ Below W.heap.size W w' := by
  subst hn
  exact at_any W a cap ws e he hW hn2

/-- What comes of reading; z is what stands at the end. -/
def Ge.read (k : Ge) (sn' : Sn) (z : Int) : Ge := if sn'.ph ≠ 1 then { k with sn := sn' } else if z < 0 then { k with sn := sn', ph := 2 } else { k with sn := sn', ta := some (ta0 k.t k.s k.so k.d k.who z (sn'.X.getD z.toNat 0)) }
/-- What comes of taking. -/
def Ge.grab (k : Ge) (N : Nat) (a : Ta) : Ge := if a.ph = 1 then { k with ta := some a, ph := 1 } else if a.ph = 2 then { k with tries := k.tries + 1, sn := sn0 k.t k.s k.so k.d k.who (IntKind.u64.wrap k.start % N) N, ta := none } else { k with ta := some a }

/-- What a step of a get leaves. -/
def GePost (base : Nat) (w : World) (b bs gs : Nat) (bt : Option Nat) (p c : Nat) (v : Value) (k' : Ge) (C' : List Int) (L' : List Ev) (w' : World) : Prop :=
  ∃ v' bs' gs' bt', Does (GeB b bs gs bt) base w w' p c v v' C' L' ∧ IsGe base w' b bs' gs' bt' k' ∧ (∀ i, GeB b bs' gs' bt' i → GeB b bs gs bt i ∨ w.heap.size ≤ i) ∧ ∀ i, GeB b bs' gs' bt' i → ¬ Foot p c v' i

section
variable (base : Nat) (w : World) (b bs gs p c : Nat) (bt : Option Nat) (v : Value) (C : List Int) (L : List Ev) (k : Ge) (N : Nat)

set_option maxRecDepth 100000 in
set_option maxHeartbeats 4000000 in
theorem read_more (sn' : Sn) (L1 : List Ev) (hn : sn'.ph ≠ 1) (hT : IsGe base w b bs gs bt k) (ha : ∀ i, GeB b bs gs bt i → ¬ Foot p c v i)
    (hin : Calls Try.prog 19 #[pt bs, pt p] w (SnPost base w bs gs p c v sn' C L1 (.returned (i64 sn'.ph)))) :
    Calls Try.prog 48 #[pt b, pt p] w fun r w' => r = .returned (.tuple #[]) ∧ GePost base w b bs gs bt p c v { k with sn := sn' } C L1 w' := by
  have q1 : (sn'.ph != 1) = true := by simp [hn]
  have HIN := Lib.hid hin
  have HT := Lib.hid hT
  have HA := Lib.hid ha
  have c7 := hT.obj.at' 7 _ rfl
  clear hT ha hin hn
  go_enter Try.func48, Try.ntmps48
  go_wp2_with fail
  refine HIN.out.mono ?_
  rintro r w1 ⟨rfl, v1, hD, hO⟩
  have HD := Lib.hid (hD.wideG (B' := GeB b bs gs bt) (fun i hi => by rcases hi with rfl | rfl; exact .inr (.inl rfl); exact .inr (.inr (.inl rfl))) HA.out (fun i hi => (HT.out.lt i hi).2))
  have hne : ∀ i, (i = b ∨ bt = some i) → ¬ ((i = bs ∨ i = gs) ∨ Foot p c v i) := by
    rintro i (rfl | hi) (h | h)
    · rcases h with h | h
      · exact HT.out.n1 h
      · exact HT.out.n2 h
    · exact HA.out i (.inl rfl) h
    · rcases h with h | h
      · exact (HT.out.n3 i hi).2.1 h
      · exact (HT.out.n3 i hi).2.2 h
    · exact HA.out i (.inr (.inr (.inr hi))) h
  have HG : Hid (IsGe base w1 b bs gs bt { k with sn := sn' }) := by
    refine ⟨HT.out.obj.keep hD.keep (hne b (.inl rfl)), hO, ?_, HT.out.bb, HT.out.n1, HT.out.n2, HT.out.n3⟩
    rcases HT.out.ta with h1 | ⟨x, a, h1, h2, h3, h4⟩
    · exact .inl h1
    · exact .inr ⟨x, a, h1, h2, h3.keep hD.keep (hne x (.inr h1)), h4⟩
  clear hD hO hne c7
  go_wp2
  refine bodyPost_ret (results_none rfl _ _ _) rfl ?_
  exact ⟨rfl, v1, bs, gs, bt, HD.out, HG.out, fun i hi => .inl hi, HD.out.apart⟩

set_option maxRecDepth 100000 in
set_option maxHeartbeats 8000000 in
theorem read_done (sn' : Sn) (L1 : List Ev) (hn : sn'.ph = 1) (hN : sn'.N = N) (hN0 : 1 ≤ N) (hN4 : N ≤ 4096) (he : k.e = 0 ∨ k.e = 1) (hX : ∀ i, 0 ≤ sn'.X.getD i 0 ∧ sn'.X.getD i 0 ≤ 18446744073709551615) (hta : k.ta = none) (hT : IsGe base w b bs gs bt k) (ha : ∀ i, GeB b bs gs bt i → ¬ Foot p c v i)
    (hin : Calls Try.prog 19 #[pt bs, pt p] w (SnPost base w bs gs p c v sn' C L1 (.returned (i64 sn'.ph)))) :
    Calls Try.prog 48 #[pt b, pt p] w fun r w' => r = .returned (.tuple #[]) ∧ ∃ z, IsEnd sn'.X k.e z ∧ GePost base w b bs gs bt p c v (k.read sn' z) C L1 w' := by
  have q1 : (sn'.ph != 1) = false := by simp [hn]
  have HIN := Lib.hid hin
  have HT := Lib.hid hT
  have HA := Lib.hid ha
  have HX := Lib.hid hX
  have HN1 := Lib.hid hn
  have HE := Lib.hid he
  have c7 := hT.obj.at' 7 _ rfl
  obtain rfl : bt = none := by
    rcases hT.ta with ⟨h1, _⟩ | ⟨x, a, h1, h2, _⟩
    · exact h1
    · rw [hta] at h2
      cases h2
  have HTA := Lib.hid hta
  clear hT ha hin hn hX he hta
  go_enter Try.func48, Try.ntmps48
  go_wp2_with fail
  refine HIN.out.mono ?_
  rintro r w1 ⟨rfl, v1, hD, hO⟩
  have HD := Lib.hid (hD.wideG (B' := GeB b bs gs none) (fun i hi => by rcases hi with rfl | rfl; exact .inr (.inl rfl); exact .inr (.inr (.inl rfl))) HA.out (fun i hi => (HT.out.lt i hi).2))
  have hne : ¬ ((b = bs ∨ b = gs) ∨ Foot p c v b) := by
    rintro (h | h)
    · rcases h with h | h
      · exact HT.out.n1 h
      · exact HT.out.n2 h
    · exact HA.out b (.inl rfl) h
  have HG : Hid (IsGe base w1 b bs gs none { k with sn := sn' }) := ⟨HT.out.obj.keep hD.keep hne, hO, .inl ⟨rfl, HTA.out⟩, HT.out.bb, HT.out.n1, HT.out.n2, HT.out.n3⟩
  have HIN1 : Hid (w.heap.size ≤ w1.heap.size) := hD.keep.size
  clear hD hO hne c7 HIN
  have c7 := HG.out.obj.at' 7 _ rfl
  go_wp2_with fail
  refine (snwords_any base _ bs gs sn' HN1.out (by rw [hN]; exact hN4) HG.out.sn).mono ?_
  rintro r w2 ⟨h, rfl, hrow, hb2⟩
  rw [hN] at hrow ⊢
  have hwsl : sn'.X.length = N := HG.out.sn.len.trans hN
  have hws := ws_of_row hrow HX.out
  replace HG := Lib.hid (HG.out.later hb2)
  replace HD := Lib.hid (HD.out.later hb2)
  have HWS := Lib.hid hws
  have hh : h < w2.heap.size ∧ w1.heap.size ≤ h := by have := hrow.lt h rfl; omega
  have HHh := Lib.hid hh
  clear hrow hb2 hws c7 hh
  have c5 := HG.out.obj.at' 5 _ rfl
  go_wp2_with fail
  refine (pickat_at _ (some ⟨h, 0, none⟩) N sn'.X N k.e HE.out HWS.out hwsl (by omega)).mono ?_
  rintro r w3 ⟨z, rfl, hz, hb3⟩
  replace HG := Lib.hid (HG.out.later hb3)
  replace HD := Lib.hid (HD.out.later hb3)
  replace HWS := Lib.hid (HWS.out.later hb3)
  have HZ := Lib.hid hz
  clear c5 hb3
  have hzc : (z = -1) ∨ ∃ i : Nat, z = (i : Int) ∧ i < N := by
    rcases hz with ⟨h1, _⟩ | ⟨i, h1, h2, _⟩
    · exact .inl h1
    · exact .inr ⟨i, h1, by omega⟩
  clear hz
  rcases hzc with rfl | ⟨i, rfl, hiN⟩
  · have f10 := HG.out.obj.fz 10
    have c10 := HG.out.obj.at' 10 _ rfl
    go_wp2
    refine bodyPost_ret (results_none rfl _ _ _) rfl ?_
    have hk := (Keep.refl (· = b) w3).own 10 (.int .i64 2)
    refine ⟨rfl, -1, HZ.out, v1, bs, gs, none, HD.out.own (hk.mono (fun i hi => .inl hi)), ?_, fun i hi => .inl hi, HD.out.apart⟩
    have e : k.read sn' (-1) = { k with sn := sn', ph := 2 } := by unfold Ge.read; rw [if_neg (by rw [HN1.out]; exact fun h => h rfl), if_pos (by decide)]
    rw [e]
    exact ⟨HG.out.obj.set 10 (.int .i64 2), HG.out.sn.keep hk (fun h => HG.out.n1 h.symm) (fun h => HG.out.n2 h.symm), .inl ⟨rfl, HTA.out⟩, HG.out.bb, HG.out.n1, HG.out.n2, HG.out.n3⟩
  · have hwc : w3.cell? ⟨h, i, none⟩ = some (u64 (sn'.X.getD i 0)) := by
      obtain ⟨b', off, hbo, hc⟩ := HWS.out.has (by omega)
      cases hbo
      have := hc i (by omega)
      rw [Nat.zero_add] at this
      exact this
    have HWC := Lib.hid hwc
    have hx0 := HX.out i
    obtain ⟨x, hx⟩ : ∃ x, sn'.X.getD i 0 = x := ⟨_, rfl⟩
    rw [hx] at hwc hx0
    have Hx := Lib.hid hx
    have hiN' : (i : Int) < (N : Int) := by omega
    clear hx HWC
    go_wp2_with fail
    refine wp_region_seqS ((fun w' => AtGe w' b k ∧ w'.cell? ⟨h, i, none⟩ = some (.int .u64 x))) ((0, true) :: (1, true) :: (2, true) :: (3, true) :: (4, true) :: (5, true) :: (6, true) :: (7, true) :: (8, true) :: (9, true) :: (10, true) :: (11, true) :: (12, true) :: (13, true) :: (14, false) :: (15, true) :: (16, true) :: (17, false) :: []) (by kernel_rfl) (by kernel_rfl) (by kernel_rfl) (by decide) (fun _ _ _ _ _ h => h) (⟨(HG.out.obj.drew.ge).to k rfl rfl rfl rfl rfl rfl rfl, hwc⟩) ?_
    replace HG := Lib.hid HG.out.drew
    replace HD := Lib.hid HD.out.drew
    have HW3 : Hid (w3.drew.cell? ⟨h, i, none⟩ = some (.int .u64 x)) := hwc
    clear hwc
    repeat (first | (refine seq_take (v := ?_) rfl ?_ ?_ ?_; rotate_left 1; rfl; (focus (intro wS hSw; obtain ⟨⟨c0, c1, c2, c3, c4, c5, c6⟩, d0⟩ := hSw; go_simp; first | done | with_reducible rfl)); (try simp only [Act.put, List.setIfInBounds_toArray, List.set_cons_zero, List.set_cons_succ])) | (refine seq_skip rfl ?_ ?_; rfl; (try simp only [Act.put, List.setIfInBounds_toArray, List.set_cons_zero, List.set_cons_succ])))
    refine seq_run rfl (fun K hK => ?_)
    go_simp
    go_at_call 22
    refine (tanew_any _ k.t k.s k.so k.d k.who i x).mono ?_
    rintro r w4 ⟨x4, rfl, hO4, hb4, hx4⟩
    (try go_wp2_with fail)
    have HW4 : Hid (w4.cell? ⟨h, i, none⟩ = some (.int .u64 x)) := (hb4.cell (p := ⟨h, i, none⟩) (World.block_lt_of_cell? _ _ HW3.out)).trans HW3.out
    have HX4 : Hid (w1.heap.size ≤ x4 ∧ (∀ i, GeB b bs gs none i → i ≠ x4) ∧ (∀ i, Foot p c v1 i → i ≠ x4) ∧ h ≠ x4) := by
      refine ⟨by have := HD.out.keep.size; have := HHh.out; have hl : h < w3.drew.heap.size := World.block_lt_of_cell? _ _ HW3.out; show _ ≤ _; omega, fun i hi e => ?_, fun i hi e => ?_, fun e => ?_⟩
      · have := (HG.out.lt i hi).2
        omega
      · have := (HD.out.mem.foot i hi).2
        omega
      · have hl' : h < w3.drew.heap.size := World.block_lt_of_cell? _ _ HW3.out
        omega
    have HXw : Hid (w.heap.size ≤ x4) := by have := HD.out.keep.size; show _ ≤ _; omega
    replace HG := Lib.hid (HG.out.later hb4)
    replace HD := Lib.hid (HD.out.later hb4)
    have HO4 := Lib.hid hO4
    clear hO4 hb4 hx4
    refine hK.out _ _ (⟨(HG.out.obj.ge).to k rfl rfl rfl rfl rfl rfl rfl, HW4.out⟩) (fun _ => ?_)
    (try simp only [Act.put, List.setIfInBounds_toArray, List.set_cons_zero, List.set_cons_succ])
    clear hK K
    repeat (first | (refine seq_take (v := ?_) rfl ?_ ?_ ?_; rotate_left 1; rfl; (focus (intro wS hSw; obtain ⟨⟨c0, c1, c2, c3, c4, c5, c6⟩, d0⟩ := hSw; go_simp; first | done | with_reducible rfl)); (try simp only [Act.put, List.setIfInBounds_toArray, List.set_cons_zero, List.set_cons_succ])) | (refine seq_skip rfl ?_ ?_; rfl; (try simp only [Act.put, List.setIfInBounds_toArray, List.set_cons_zero, List.set_cons_succ])))
    refine seq_run rfl (fun K hK => ?_)
    go_simp
    have f8 := HG.out.obj.fz 8
    have c8 := HG.out.obj.at' 8 _ rfl
    (try go_simp)
    clear f8 c8
    have hk := (Keep.refl (· = b) w4).own 8 (pt x4)
    have hxb : x4 ≠ b := fun e => HX4.out.2.1 b (.inl rfl) e.symm
    have HO5 := Lib.hid (HO4.out.keep hk (fun e => hxb e))
    have HG5 : Hid (IsGe base (w4.setCell ⟨b, 8, none⟩ (pt x4)) b bs gs (some x4) { k with sn := sn', ta := some (ta0 k.t k.s k.so k.d k.who i x) }) :=
      ⟨HG.out.obj.set 8 (pt x4), HG.out.sn.keep hk (fun h => HG.out.n1 h.symm) (fun h => HG.out.n2 h.symm), .inr ⟨x4, ta0 k.t k.s k.so k.d k.who i x, rfl, rfl, HO5.out, by have := HX4.out.1; have := HD.out.size; have := HXw.out; have := HG.out.bb; have h9 := HT.out.bb; have h8 := HT.out.obj.lt; omega⟩, HG.out.bb, HG.out.n1, HG.out.n2, fun x hx => by cases hx; exact ⟨hxb, fun e => HX4.out.2.1 bs (.inr (.inl rfl)) e.symm, fun e => HX4.out.2.1 gs (.inr (.inr (.inl rfl))) e.symm⟩⟩
    have HD5 := Lib.hid (HD.out.own (hk.mono (fun i hi => .inl hi)))
    have HW5 : Hid ((w4.setCell ⟨b, 8, none⟩ (pt x4)).cell? ⟨h, i, none⟩ = some (.int .u64 x)) := by
      have hhb : h ≠ b := fun e => by
        have h1 := HHh.out.2
        have h2 := HT.out.obj.lt
        have h3 := HD.out.keep.size
        have h4 : w.heap.size ≤ w1.heap.size := HIN1.out
        omega
      exact (World.cell?_setCell_other _ _ _ _ (fun e => hhb (by injection e with e1; exact e1.symm))).trans HW4.out
    clear hk HO4 HG HD
    generalize w4.setCell ⟨b, 8, none⟩ (pt x4) = w5 at HO5 HG5 HD5 HW5 ⊢
    refine hK.out _ _ (⟨(HG5.out.obj.ge).to k rfl rfl rfl rfl rfl rfl rfl, HW5.out⟩) (fun _ => ?_)
    (try simp only [Act.put, List.setIfInBounds_toArray, List.set_cons_zero, List.set_cons_succ])
    clear hK K
    refine seq_done ?_
    go_wp2
    go_end0
    refine ⟨rfl, (i : Int), HZ.out, v1, bs, gs, some x4, HD5.out, ?_, ?_, ?_⟩
    · have e : k.read sn' (i : Int) = { k with sn := sn', ta := some (ta0 k.t k.s k.so k.d k.who i x) } := by
        unfold Ge.read
        rw [if_neg (by rw [HN1.out]; exact fun h => h rfl), if_neg (by omega), Int.toNat_natCast, Hx.out]
      rw [e]
      exact HG5.out
    · rintro q (h1 | h1 | h1 | h1)
      · exact .inl (.inl h1)
      · exact .inl (.inr (.inl h1))
      · exact .inl (.inr (.inr (.inl h1)))
      · cases h1
        exact .inr HXw.out
    · rintro q (h1 | h1 | h1 | h1)
      · exact HD5.out.apart q (.inl h1)
      · exact HD5.out.apart q (.inr (.inl h1))
      · exact HD5.out.apart q (.inr (.inr (.inl h1)))
      · cases h1
        exact fun hf => HX4.out.2.2.1 _ hf rfl
end

end Go.Proofs.Yticphioeipbnmaa
