/-
  Contracts of package snap; what a step of it does is told as a function on plain data. No condition but that numbers fit their kinds.
  The contract of Step of package snap. No condition but that numbers fit their kinds.
  Plain lemmas on snaps (as data): what a step does; when a snap is done. No Go. No condition.
  What the laws on snaps have in common: what the call holds, the document's example, turns as they came in. No condition.
-/
import Derived.Test.YtpfjommkjkbonaaGreatATick
import Derived.Laws.CopyOwn
import Derived.Test.YtpfjommkjkbonaaGreatAMem
namespace Go.Proofs.YtpfjommkjkbonaaGreat
section
open Go.RowKit
set_option linter.unusedVariables false

theorem wp_make_full {P : Program} {o : Oper} {a : Act} {w : World} {K : Act → World → Prop} {Q : Exit → Act → World → Prop} (l c : Operand) (t : TypeId) (hop : o.op = Op.makeSlice t l c)
    (base : Nat) (e : TypeId) (i : TypeInfo) (z : Value) (size : Nat) (h1 : P.underlying t = some (.slice e)) (h2 : P.info? e = some i) (h3 : i.zero = some z) (h4 : i.size = size)
    (kl kc : IntKind) (n : Nat) (hl : a.eval l = .int kl (n : Int)) (hc : a.eval c = .int kc (n : Int)) (b2 : i.bytes * n ≤ 281474976710656) (b3 : n ≤ maxLen) (b4 : base ≤ w.heap.size)
    (hK : ∀ w', w'.ownsRow base e size (.slice (some ⟨w.heap.size, 0, none⟩) n n) n (madeCells z.cells (n * size)).toList → w.grownBy w' none → K (a.put o.dst (.slice (some ⟨w.heap.size, 0, none⟩) n n)) w') :
    Oper.wp P o a w K Q := by
  obtain ⟨w', hrun, r1, r2⟩ := run_make_full (P := P) w base t e i z size h1 h2 h3 h4 kl kc n b2 b3 b4
  unfold Oper.wp
  simp [execOp, hop, hl, hc, hrun, Result.andThen]
  exact hK w' r1 r2

theorem step_make_full {P : Program} {ops : Array Oper} {o : Oper} {a : Act} {w : World} {K : Act → World → Prop} {Q : Exit → Act → World → Prop} {E : Prop} (hg : o.guard = none) (l c : Operand) (t : TypeId) (hop : o.op = Op.makeSlice t l c)
    (base : Nat) (e : TypeId) (i : TypeInfo) (z : Value) (size : Nat) (h1 : P.underlying t = some (.slice e)) (h2 : P.info? e = some i) (h3 : i.zero = some z) (h4 : i.size = size)
    (kl kc : IntKind) (n : Nat) (hl : a.eval l = .int kl (n : Int)) (hc : a.eval c = .int kc (n : Int)) (b2 : i.bytes * n ≤ 281474976710656) (b3 : n ≤ maxLen) (b4 : base ≤ w.heap.size)
    (hK : ∀ w', w'.ownsRow base e size (.slice (some ⟨w.heap.size, 0, none⟩) n n) n (madeCells z.cells (n * size)).toList → w.grownBy w' none → K (a.put o.dst (.slice (some ⟨w.heap.size, 0, none⟩) n n)) w') :
    if Region.wanted o (yielded ops a.tmps) = true then Oper.wp P o a w K Q else E := by
  have hw : Region.wanted o (yielded ops a.tmps) = true := by simp [Region.wanted, hg]
  rw [if_pos hw]
  exact wp_make_full l c t hop base e i z size h1 h2 h3 h4 kl kc n hl hc b2 b3 b4 hK

/-- A snap under way: the layout, whose it is, where it begins, how many words this pass has read; the words read last; whether this pass read one that had turned; how many passes; how far it is. -/
structure Sn where
  t : Int
  s : Int
  so : Int
  d : Int
  who : Int
  start : Int
  read : Int
  N : Nat
  turned : Bool
  passes : Int
  ph : Int
  X : List Int

abbrev Sn.list (k : Sn) (g : Nat) : List Value := [i64 k.t, i64 k.s, i64 k.so, i64 k.d, i64 k.who, i64 k.start, i64 k.read, .slice (some ⟨g, 0, none⟩) k.N k.N, .bool k.turned, i64 k.passes, i64 k.ph]

structure AtSn (w : World) (b g : Nat) (k : Sn) : Prop where
  c0 : w.cell? ⟨b, 0, none⟩ = some (i64 k.t)
  c1 : w.cell? ⟨b, 1, none⟩ = some (i64 k.s)
  c2 : w.cell? ⟨b, 2, none⟩ = some (i64 k.so)
  c3 : w.cell? ⟨b, 3, none⟩ = some (i64 k.d)
  c4 : w.cell? ⟨b, 4, none⟩ = some (i64 k.who)
  c5 : w.cell? ⟨b, 5, none⟩ = some (i64 k.start)
  c6 : w.cell? ⟨b, 6, none⟩ = some (i64 k.read)
  c7 : w.cell? ⟨b, 7, none⟩ = some (.slice (some ⟨g, 0, none⟩) k.N k.N)
  c8 : w.cell? ⟨b, 8, none⟩ = some (.bool k.turned)
  c9 : w.cell? ⟨b, 9, none⟩ = some (i64 k.passes)
  c10 : w.cell? ⟨b, 10, none⟩ = some (i64 k.ph)

/-- It lies in block b, its words in block g. -/
structure IsSn (base : Nat) (w : World) (b g : Nat) (k : Sn) : Prop where
  obj : IsObj w b (k.list g)
  row : w.ownsRow base 30 1 (.slice (some ⟨g, 0, none⟩) k.N k.N) k.N (k.X.map u64)
  bb : base ≤ b
  ne : b ≠ g

section
variable {base : Nat} {w w' : World} {b g : Nat} {k : Sn}
theorem IsSn.at (h : IsSn base w b g k) : AtSn w b g k :=
  ⟨h.obj.at' 0 _ rfl, h.obj.at' 1 _ rfl, h.obj.at' 2 _ rfl, h.obj.at' 3 _ rfl, h.obj.at' 4 _ rfl, h.obj.at' 5 _ rfl, h.obj.at' 6 _ rfl, h.obj.at' 7 _ rfl, h.obj.at' 8 _ rfl, h.obj.at' 9 _ rfl, h.obj.at' 10 _ rfl⟩
theorem IsSn.head (h : IsSn base w b g k) : AtHead w b k.t k.s k.so k.d k.who k.start := h.obj.head
theorem IsSn.len (h : IsSn base w b g k) : k.X.length = k.N := by
  have := h.row.1
  rw [List.length_map] at this
  omega
theorem IsSn.gb (h : IsSn base w b g k) : base ≤ g ∧ g < w.heap.size := h.row.lt g rfl
theorem IsSn.keep {T : Nat → Prop} (h : IsSn base w b g k) (e : Keep T w w') (hb : ¬ T b) (hg : ¬ T g) : IsSn base w' b g k :=
  ⟨h.obj.keep e hb, e.row h.row (fun i hi => by cases hi; exact hg), h.bb, h.ne⟩
theorem IsSn.later (h : IsSn base w b g k) (e : Below w.heap.size w w') : IsSn base w' b g k := h.keep (T := fun _ => False) (Keep.of_below e) (fun h => h) (fun h => h)
theorem IsSn.drew (h : IsSn base w b g k) : IsSn base w.drew b g k := h.later (Below.refl _ _).drew
theorem IsSn.cell (h : IsSn base w b g k) {j : Nat} {y : Int} (hy : k.X[j]? = some y) : w.cell? ⟨g, j, none⟩ = some (u64 y) := by
  have hj := (List.getElem?_eq_some_iff.1 hy).1
  rw [h.row.cellAt j (by have := h.len; omega), List.getElem?_map, hy]
  rfl
theorem IsSn.set (h : IsSn base w b g k) (i : Nat) (u : Value) {k' : Sn} (hk : (k.list g).set i u = k'.list g) (hN : k'.N = k.N) (hX : k'.X = k.X) : IsSn base (w.setCell ⟨b, i, none⟩ u) b g k' :=
  ⟨hk ▸ h.obj.set i u, by rw [hN, hX]; exact setCell_row h.row ⟨b, i, none⟩ (by simp [Value.ownBlock]; exact fun e => h.ne e.symm) u, h.bb, h.ne⟩
theorem IsSn.word (h : IsSn base w b g k) (j : Nat) (x : Int) : IsSn base (w.setCell ⟨g, j, none⟩ (u64 x)) b g { k with X := k.X.set j x } :=
  ⟨h.obj.other j (u64 x) (fun e => h.ne e.symm), by
    have h2 := h.row.stored j (u64 x)
    show World.ownsRow _ _ _ _ _ k.N ((k.X.set j x).map u64)
    rw [List.map_set]
    exact h2.1, h.bb, h.ne⟩
end

def tSn (base b g : Nat) (k : Sn) : Thing := ⟨fun w => IsSn base w b g k, fun i => i = b ∨ i = g⟩
theorem tSn_ok (base b g : Nat) (k : Sn) : (tSn base b g k).Ok base :=
  ⟨fun _ _ _ h e hn => IsSn.keep h e (hn b (.inl rfl)) (hn g (.inr rfl)), fun w i (h : IsSn base w b g k) hi => by
    rcases hi with rfl | rfl
    · exact ⟨h.bb, h.obj.lt⟩
    · exact h.gb⟩

/-- A pass has ended. -/
def Sn.fin (k : Sn) : Sn := { k with passes := k.passes + 1, ph := if 1 < k.passes + 1 ∧ k.turned = false then 1 else k.ph, read := 0, turned := false }
/-- The place that is read next. -/
def Sn.slot (k : Sn) : Nat := ((k.start + k.read) % (k.N : Int)).toNat
def Sn.put (k : Sn) (x : Int) : Sn := { k with X := k.X.set k.slot x, turned := k.turned || decide (x ≠ k.X.getD k.slot 0), read := k.read + 1 }
/-- A step. -/
def Sn.step (k : Sn) (C : List Int) : Sn := if k.ph = 0 then if k.read + 1 = (k.N : Int) then (k.put (C.getD k.slot 0)).fin else k.put (C.getD k.slot 0) else k
def Sn.ev (k : Sn) (C : List Int) : List Ev := if k.ph = 0 then [⟨k.who, 0, (k.slot : Nat), C.getD k.slot 0, C.getD k.slot 0, true⟩] else []

/-- What may be in it. -/
structure Sn.Ok (k : Sn) (n : Int) (C : List Int) : Prop where
  lay : Lay k.t k.s n
  N : (k.N : Int) = n
  len : (C.length : Int) = 2 * n + 2 * k.t
  X : k.X.length = k.N
  s0 : 0 ≤ k.start
  s1 : k.start < n
  r0 : 0 ≤ k.read
  r1 : k.read < n
  p0 : 0 ≤ k.passes
  p1 : k.passes ≤ 1000000

section
variable (base : Nat) (w : World) (b g : Nat) (k : Sn)

set_option maxHeartbeats 1000000 in
theorem snphase_any (hT : IsSn base w b g k) : Calls Tryz.prog 162 #[pt b] w fun r w' => r = .returned (i64 k.ph) ∧ w = w' := by
  obtain ⟨c0, c1, c2, c3, c4, c5, c6, c7, c8, c9, c10⟩ := hT.at
  go_enter Tryz.func162, Tryz.ntmps162
  go_wp2
  go_ret
  exact ⟨rfl, rfl⟩

set_option maxHeartbeats 1000000 in
theorem snwords_none (hp : k.ph ≠ 1) (hT : IsSn base w b g k) : Calls Tryz.prog 108 #[pt b] w fun r w' => r = .returned (.slice none 0 0) ∧ w = w' := by
  have q : (k.ph != 1) = true := by simp [hp]
  obtain ⟨c0, c1, c2, c3, c4, c5, c6, c7, c8, c9, c10⟩ := hT.at
  clear hp hT
  go_enter Tryz.func108, Tryz.ntmps108
  go_wp2
  go_ret
  exact ⟨rfl, rfl⟩

/-- A new list of words. -/
def WordsPost (X : List Int) (N : Nat) (w : World) (r : Ending) (w' : World) : Prop :=
  ∃ h, r = .returned (.slice (some ⟨h, 0, none⟩) N N) ∧ w'.ownsRow w.heap.size 30 1 (.slice (some ⟨h, 0, none⟩) N N) N (X.map u64) ∧ Below w.heap.size w w'

theorem words_made (hT : IsSn base w b g k) (w1 : World) (hown : w1.ownsRow w.heap.size 30 1 (.slice (some ⟨w.heap.size, 0, none⟩) k.N k.N) k.N (madeCells (Value.int .u64 0).cells (k.N * 1)).toList) (hg : w.grownBy w1 none) :
    Hid (w1.heap[w.heap.size]? = some (.cells (List.replicate k.N (u64 0)).toArray 30 (0, 0))) ∧ Hid (Below w.heap.size w w1) ∧ Hid (IsSn base w1 b g k) ∧ Hid (∀ (j : Nat) (v : Value), (k.X.map u64)[j]? = some v → w1.cell? ((⟨g, 0, none⟩ : Addr).add j) = some v) := by
  have hb1 : Below w.heap.size w w1 := (Below.refl _ _).grown hg (Nat.le_refl _) (fun k hk => by cases hk)
  have hT1 := hT.later hb1
  refine ⟨?_, hb1, hT1, ?_⟩
  · show _ = _
    rw [toList_made] at hown
    rcases hown.2 with ⟨h0, _⟩ | ⟨g', cap, cur, hv, _, hh, _, _, hcs, hct⟩
    · cases h0
    · cases hv
      rw [hh]
      have h2 : cur.toList = List.replicate k.N (u64 0) := by
        rw [List.take_of_length_le (by rw [Array.length_toList, hcs]; exact Nat.le_refl _)] at hct
        rw [hct, List.map_replicate]
      rw [← h2, Array.toArray_toList]
  · intro j v hj
    rw [addr_add', Nat.zero_add]
    rw [List.getElem?_map] at hj
    obtain ⟨x, hx, rfl⟩ := Option.map_eq_some_iff.1 hj
    exact hT1.cell hx

set_option maxHeartbeats 2000000 in
theorem snwords_any (hp : k.ph = 1) (hN : k.N ≤ 4096) (hT : IsSn base w b g k) : Calls Tryz.prog 108 #[pt b] w (WordsPost k.X k.N w) := by
  have q : (k.ph != 1) = false := by simp [hp]
  obtain ⟨c0, c1, c2, c3, c4, c5, c6, c7, c8, c9, c10⟩ := hT.at
  obtain ⟨i, hi, hz0, hz1, hz2⟩ := elem_u64.info
  have HM := Lib.hid (words_made base w b g k hT)
  have HL := Lib.hid hT.len
  clear hp hT
  go_enter Tryz.func108, Tryz.ntmps108
  go_wp2_with (first
    | (refine wpList_make_full _ rfl _ _ 105 rfl w.heap.size 30 i (.int .u64 0) 1 elem_u64.und hi hz0 hz1 .i64 .i64 _ _ k.N rfl rfl rfl rfl (by rw [hz2]; omega) (by unfold maxLen; omega) (Nat.le_refl _) ?_; intro w1 hown hgrow; obtain ⟨HH, HB, HT1, HSRC⟩ := HM.out w1 hown hgrow; clear hown hgrow c0 c1 c2 c3 c4 c5 c6 c7 c8 c9 c10; obtain ⟨c0, c1, c2, c3, c4, c5, c6, c7, c8, c9, c10⟩ := HT1.out.at)
    | (refine wpList_copy_splice rfl _ _ 105 105 rfl 30 elem_u64.und (by kernel_rfl) _ _ _ _ _ _ rfl rfl w.heap.size 0 (List.replicate k.N (u64 0)) 30 HH.out (k.X.map u64) (by rw [List.length_map, HL.out]; exact (Nat.min_self _).symm) (fun _ => ⟨rfl, _, rfl, HSRC.out⟩) (by rw [List.length_map, List.length_replicate, HL.out]; omega) (fun v hv => by obtain ⟨x, _, rfl⟩ := List.mem_map.1 hv; rfl) w.heap.size w HB.out (Nat.le_refl _) ?_; intro w2 hg2 hb2))
  go_ret
  refine ⟨_, rfl, ?_, hb2⟩
  have hs : splice (List.replicate k.N (u64 0)) 0 (k.X.map u64) = k.X.map u64 := by
    unfold splice
    rw [List.take_zero, List.nil_append, List.drop_of_length_le (by rw [List.length_map, List.length_replicate, HL.out]; omega), List.append_nil]
  have h2 := hg2.out
  rw [hs] at h2
  exact ⟨by rw [List.length_map, HL.out]; omega, .inr ⟨w.heap.size, k.N, _, rfl, Nat.le_refl _, h2, Nat.le_refl _, by unfold maxLen; omega, by simp [HL.out], by rw [Nat.mul_one]; exact List.take_of_length_le (by simp [HL.out])⟩⟩

/-- A snap that is begun. -/
def sn0 (t s so d who start : Int) (N : Nat) : Sn := ⟨t, s, so, d, who, start, 0, N, false, 0, 0, List.replicate N 0⟩

theorem start_mod (start : Int) (n : Nat) (h1 : 1 ≤ n) (h2 : n ≤ 4096) : IntKind.u64.wrap (n : Int) = n ∧ wrap64 ((IntKind.u64.wrap start).tmod n) = IntKind.u64.wrap start % n ∧ IntKind.i64.wrap ((IntKind.u64.wrap start).tmod n) = IntKind.u64.wrap start % n ∧ 0 ≤ IntKind.u64.wrap start % n ∧ IntKind.u64.wrap start % n < n := by
  have h0 : 0 ≤ IntKind.u64.wrap start := by rw [IntKind.wrap_u64]; omega
  have h3 := Int.emod_nonneg (IntKind.u64.wrap start) (show (n : Int) ≠ 0 by omega)
  have h4 := Int.emod_lt_of_pos (IntKind.u64.wrap start) (show (0 : Int) < n by omega)
  rw [Int.tmod_eq_emod_of_nonneg h0]
  exact ⟨by rw [IntKind.wrap_u64]; omega, by unfold wrap64; omega, IntWalk.i64_in _ (by omega), h3, h4⟩

set_option maxRecDepth 100000 in
set_option maxHeartbeats 2000000 in
theorem snnew_any (t s so d who start n : Int) (N : Nat) (hl : Lay t s n) (hN : (N : Int) = n) (hb : base ≤ w.heap.size) :
    Calls Tryz.prog 82 #[cf t s so d, i64 who, i64 start] w fun r w' => ∃ b g, r = .returned (pt b) ∧ IsSn base w' b g (sn0 t s so d who (IntKind.u64.wrap start % N) N) ∧ Below w.heap.size w w' ∧ w.heap.size ≤ b ∧ w.heap.size ≤ g := by
  have hn1 := hl.n1; have hn2 := hl.n2; have ht1 := hl.t1
  obtain ⟨m1, m2, m5, m3, m4⟩ := start_mod start N (by omega) (by omega)
  have hn0 : ¬ N = 0 := by omega
  obtain ⟨i, hi, hz0, hz1, hz2⟩ := elem_u64.info
  have hwn : IntKind.u64.wrap n = N := by rw [← hN]; exact m1
  subst hN
  clear m1
  go_enter Tryz.func82, Tryz.ntmps82
  go_wp2_with fail
  refine (call_any _ _ _ _ N _ hl).mono ?_
  rintro r w1 ⟨rfl, hb1⟩
  have hbox : AtC w1 w.heap.size t s so d := (AtC.made w t s so d).later hb1 (by simp)
  obtain ⟨q0, q1, q2, q3⟩ := hbox
  have hb01 := Lib.hid (below_step (below_new (Below.refl _ _) _) hb1)
  clear hb1
  go_wp2_with fail
  refine wp_region_seq ((0, true) :: (1, true) :: (2, true) :: (3, true) :: (4, true) :: (5, true) :: (6, true) :: (7, true) :: (8, true) :: (9, false) :: (10, true) :: (11, false) :: (12, true) :: []) (by kernel_rfl) (by kernel_rfl) (by kernel_rfl) (by decide) (fun _ _ _ _ _ h => h) (fun hHeld => ?_)
  repeat (first
    | (refine seq_take (v := ?_) rfl ?_ ?_ ?_; rotate_left 1; rfl; (focus (intro wS hSw; have hk := below_rule hSw; go_simp; first | done | with_reducible rfl)); (try simp only [Act.put, List.setIfInBounds_toArray, List.set_cons_zero, List.set_cons_succ]))
    | (refine seq_skip rfl ?_ ?_; rfl; (try simp only [Act.put, List.setIfInBounds_toArray, List.set_cons_zero, List.set_cons_succ])))
  refine seq_run rfl (fun K hK => ?_)
  refine step_make_full rfl _ _ 105 rfl base 30 i (.int .u64 0) 1 elem_u64.und hi hz0 hz1 .i64 .i64 N rfl rfl (by rw [hz2]; omega) (by unfold maxLen; omega) (by have := hb01.out.size; exact Nat.le_trans hb this) ?_
  intro w2 hown hg
  have hs1 := (hown.lt _ rfl).2
  have HG : Hid (Below w1.heap.size w1 w2) := ((Below.refl _ _).drew).grown hg (Nat.le_refl _) (fun k hk => by cases hk)
  have HO := Lib.hid hown
  clear hown hg
  refine hK.out _ _ HG.out (fun _ => ?_)
  (try simp only [Act.put, List.setIfInBounds_toArray, List.set_cons_zero, List.set_cons_succ])
  clear hK K hHeld
  have hHeld := HG.out
  repeat (first
    | (refine seq_take (v := ?_) rfl ?_ ?_ ?_; rotate_left 1; rfl; (focus (intro wS hSw; have hk := below_rule hSw; go_simp; first | done | with_reducible rfl)); (try simp only [Act.put, List.setIfInBounds_toArray, List.set_cons_zero, List.set_cons_succ]))
    | (refine seq_skip rfl ?_ ?_; rfl; (try simp only [Act.put, List.setIfInBounds_toArray, List.set_cons_zero, List.set_cons_succ])))
  refine seq_run rfl (fun K hK => ?_); go_simp; (try skip); (try go_wp2_with fail); refine hK.out _ _ ?_ ?_; (focus (first | exact below_step hHeld hb' | exact below_new hHeld _ | exact hHeld)); (try clear hb'); clear hHeld hK K; intro hHeld; (try simp only [Act.put, List.setIfInBounds_toArray, List.set_cons_zero, List.set_cons_succ])
  repeat (first
    | (refine seq_take (v := ?_) rfl ?_ ?_ ?_; rotate_left 1; rfl; (focus (intro wS hSw; have hk := below_rule hSw; go_simp; first | done | with_reducible rfl)); (try simp only [Act.put, List.setIfInBounds_toArray, List.set_cons_zero, List.set_cons_succ]))
    | (refine seq_skip rfl ?_ ?_; rfl; (try simp only [Act.put, List.setIfInBounds_toArray, List.set_cons_zero, List.set_cons_succ])))
  first | refine seq_done ?_ | skip
  go_wp2
  go_ret
  have ho := HO.out
  rw [toList_made] at ho
  have hsz := hb01.out.size
  have hd : w1.drew.heap.size = w1.heap.size := rfl
  exact ⟨w2.heap.size, w1.heap.size, rfl, ⟨IsObj.made w2 ((sn0 t s so d who (IntKind.u64.wrap start % N) N).list w1.heap.size) 171, ho.alloc _, by omega, by omega⟩, below_step hb01.out hHeld, by omega, by omega⟩
end
end

section
open Go.RowKit
set_option linter.unusedVariables false

/-- What a step of a snap leaves. -/
def SnPost (base : Nat) (w : World) (b g p c : Nat) (v : Value) (k' : Sn) (C' : List Int) (L' : List Ev) (e0 : Ending) (e : Ending) (w' : World) : Prop :=
  e = e0 ∧ ∃ v', Does (fun i => i = b ∨ i = g) base w w' p c v v' C' L' ∧ IsSn base w' b g k'

section
variable (base : Nat) (w : World) (b g p c : Nat) (v : Value) (C : List Int) (L : List Ev) (k : Sn) (n : Int)

set_option maxHeartbeats 2000000 in
theorem snend_0 (h4 : k.passes = 0) (p0 : 0 ≤ k.passes) (p1 : k.passes ≤ 1000000) (hT : IsSn base w b g k) :
    Calls Tryz.prog 123 #[pt b] w fun r w' => r = .returned (.tuple #[]) ∧ IsSn base w' b g k.fin ∧ Keep (· = b) w w' := by
  have hfin : k.fin = { k with passes := k.passes + 1, read := 0, turned := false } := by unfold Sn.fin; rw [if_neg (by rintro ⟨h, h'⟩; omega)]
  rw [hfin]
  clear hfin
  obtain ⟨c0, c1, c2, c3, c4, c5, c6, c7, c8, c9, c10⟩ := hT.at
  have f3 := hT.obj.fz 6
  have f5 := hT.obj.fz 8
  have f6 := hT.obj.fz 9
  have f7 := hT.obj.fz 10
  have e1 : wrap64 (k.passes + 1) = k.passes + 1 := by unfold wrap64; omega
  have q1 : decide ((1 : Int) < k.passes + 1) = false := decide_eq_false (by omega)
  have HT := Lib.hid hT
  clear h4 hT
  go_enter Tryz.func123, Tryz.ntmps123
  go_wp2
  go_end0
  have h1 := HT.out.set 9 (.int .i64 (k.passes + 1)) (k' := { k with passes := k.passes + 1 }) rfl rfl rfl
  have h2 := h1.set 6 (.int .i64 0) (k' := { k with passes := k.passes + 1, read := 0 }) rfl rfl rfl
  exact ⟨rfl, h2.set 8 (.bool false) (k' := { k with passes := k.passes + 1, read := 0, turned := false }) rfl rfl rfl, (((Keep.refl _ _).own 9 _).own 6 _).own 8 _⟩

set_option maxHeartbeats 2000000 in
theorem snend_1 (h4 : 0 < k.passes ∧ k.turned = true) (p0 : 0 ≤ k.passes) (p1 : k.passes ≤ 1000000) (hT : IsSn base w b g k) :
    Calls Tryz.prog 123 #[pt b] w fun r w' => r = .returned (.tuple #[]) ∧ IsSn base w' b g k.fin ∧ Keep (· = b) w w' := by
  have hfin : k.fin = { k with passes := k.passes + 1, read := 0, turned := false } := by unfold Sn.fin; rw [if_neg (by rintro ⟨h, h'⟩; rw [h4.2] at h'; cases h')]
  rw [hfin]
  clear hfin
  obtain ⟨c0, c1, c2, c3, c4, c5, c6, c7, c8, c9, c10⟩ := hT.at
  have f3 := hT.obj.fz 6
  have f5 := hT.obj.fz 8
  have f6 := hT.obj.fz 9
  have f7 := hT.obj.fz 10
  have e1 : wrap64 (k.passes + 1) = k.passes + 1 := by unfold wrap64; omega
  have q1 : decide ((1 : Int) < k.passes + 1) = true := decide_eq_true (by omega)
  rw [h4.2] at c8
  have HT := Lib.hid hT
  clear h4 hT
  go_enter Tryz.func123, Tryz.ntmps123
  go_wp2
  go_end0
  have h1 := HT.out.set 9 (.int .i64 (k.passes + 1)) (k' := { k with passes := k.passes + 1 }) rfl rfl rfl
  have h2 := h1.set 6 (.int .i64 0) (k' := { k with passes := k.passes + 1, read := 0 }) rfl rfl rfl
  exact ⟨rfl, h2.set 8 (.bool false) (k' := { k with passes := k.passes + 1, read := 0, turned := false }) rfl rfl rfl, (((Keep.refl _ _).own 9 _).own 6 _).own 8 _⟩

set_option maxHeartbeats 2000000 in
theorem snend_2 (h4 : 0 < k.passes ∧ k.turned = false) (p0 : 0 ≤ k.passes) (p1 : k.passes ≤ 1000000) (hT : IsSn base w b g k) :
    Calls Tryz.prog 123 #[pt b] w fun r w' => r = .returned (.tuple #[]) ∧ IsSn base w' b g k.fin ∧ Keep (· = b) w w' := by
  have hfin : k.fin = { k with passes := k.passes + 1, ph := 1, read := 0, turned := false } := by unfold Sn.fin; rw [if_pos ⟨by omega, h4.2⟩]
  rw [hfin]
  clear hfin
  obtain ⟨c0, c1, c2, c3, c4, c5, c6, c7, c8, c9, c10⟩ := hT.at
  have f3 := hT.obj.fz 6
  have f5 := hT.obj.fz 8
  have f6 := hT.obj.fz 9
  have f7 := hT.obj.fz 10
  have e1 : wrap64 (k.passes + 1) = k.passes + 1 := by unfold wrap64; omega
  have q1 : decide ((1 : Int) < k.passes + 1) = true := decide_eq_true (by omega)
  rw [h4.2] at c8
  have HT := Lib.hid hT
  clear h4 hT
  go_enter Tryz.func123, Tryz.ntmps123
  go_wp2
  go_end0
  have h1 := HT.out.set 9 (.int .i64 (k.passes + 1)) (k' := { k with passes := k.passes + 1 }) rfl rfl rfl
  have h2 := h1.set 10 (.int .i64 1) (k' := { k with passes := k.passes + 1, ph := 1 }) rfl rfl rfl
  have h3 := h2.set 6 (.int .i64 0) (k' := { k with passes := k.passes + 1, ph := 1, read := 0 }) rfl rfl rfl
  exact ⟨rfl, h3.set 8 (.bool false) (k' := { k with passes := k.passes + 1, ph := 1, read := 0, turned := false }) rfl rfl rfl, ((((Keep.refl _ _).own 9 _).own 10 _).own 6 _).own 8 _⟩

theorem snend_any (p0 : 0 ≤ k.passes) (p1 : k.passes ≤ 1000000) (hT : IsSn base w b g k) :
    Calls Tryz.prog 123 #[pt b] w fun r w' => r = .returned (.tuple #[]) ∧ IsSn base w' b g k.fin ∧ Keep (· = b) w w' := by
  by_cases h0 : k.passes = 0
  · exact snend_0 base w b g k h0 p0 p1 hT
  · cases ht : k.turned with
    | true => exact snend_1 base w b g k ⟨by omega, ht⟩ p0 p1 hT
    | false => exact snend_2 base w b g k ⟨by omega, ht⟩ p0 p1 hT

set_option maxHeartbeats 1000000 in
theorem snstep_rest (hp : k.ph ≠ 0) (hT : IsSn base w b g k) (hM : IsMem base w p c v C L) (ha : ∀ i, (i = b ∨ i = g) → ¬ Foot p c v i) (hb : base ≤ w.heap.size) :
    Calls Tryz.prog 107 #[pt b, pt p] w (SnPost base w b g p c v k C L (.returned (i64 k.ph))) := by
  have qp : (k.ph != 0) = true := by simp [hp]
  have HS := Lib.hid (Does.refl (B := fun i => i = b ∨ i = g) hM ha hb)
  have HT := Lib.hid hT
  obtain ⟨c0, c1, c2, c3, c4, c5, c6, c7, c8, c9, c10⟩ := hT.at
  clear hT hM ha hp
  go_enter Tryz.func107, Tryz.ntmps107
  go_wp2
  go_ret
  exact ⟨rfl, _, HS.out, HT.out⟩

set_option maxHeartbeats 4000000 in
theorem snstep_0 (x y : Int) (j : Nat) (h4 : x = y ∧ k.read + 1 ≠ (k.N : Int)) (hp : k.ph = 0) (hk : k.Ok n C) (hj : (k.start + k.read) % (k.N : Int) = (j : Int)) (hx : C[j]? = some x) (hy : k.X[j]? = some y) (hT : IsSn base w b g k) (hM : IsMem base w p c v C L) (ha : ∀ i, (i = b ∨ i = g) → ¬ Foot p c v i) (hb : base ≤ w.heap.size) (hL : L.length < 1000000000) :
    Calls Tryz.prog 107 #[pt b, pt p] w (SnPost base w b g p c v ({ k with read := k.read + 1 }) C (L ++ [⟨k.who, 0, j, x, x, true⟩]) (.returned (i64 ({ k with read := k.read + 1 }).ph))) := by
  obtain ⟨hl, hN, hlen, hX, s0, s1, r0, r1, p0, p1⟩ := hk
  subst hN
  have hn1 := hl.n1; have hn2 := hl.n2; have ht1 := hl.t1
  have hjN : (j : Int) < (k.N : Int) := by rw [← hj]; exact Int.emod_lt_of_pos _ (by omega)
  have hn0 : ¬ k.N = 0 := by omega
  have hjt : (k.start + k.read).tmod (k.N : Int) = (j : Int) := by rw [Int.tmod_eq_emod_of_nonneg (by omega)]; exact hj
  have e1 : IntKind.i64.wrap (k.start + k.read) = k.start + k.read := IntWalk.i64_in _ (by omega)
  have e2 : wrap64 (k.read + 1) = k.read + 1 := by unfold wrap64; omega
  have qp : (k.ph != 0) = false := by simp [hp]
  have HS := Lib.hid (Does.refl (B := fun i => i = b ∨ i = g) hM ha hb)
  have HX := Lib.hid hx
  have HY := Lib.hid hy
  have hA : AtSn w.drew b g k := hT.drew.at
  have HT := Lib.hid hT
  have qx : (x != y) = false := by simp [h4.1]
  have qr : (k.read + 1 == (k.N : Int)) = false := by simp [h4.2]
  clear h4
  have HEND := Lib.hid (fun W (k1 : Sn) (h1 : k1.passes = k.passes) (hW : IsSn base W b g k1) => snend_any base W b g k1 (by omega) (by omega) hW)
  obtain ⟨c0, c1, c2, c3, c4, c5, c6, c7, c8, c9, c10⟩ := hT.at
  clear hx hy hT hM ha hj hp hX hlen p0 p1
  go_enter Tryz.func107, Tryz.ntmps107
  go_wp2_with fail
  clear c0 c1 c2 c3 c4 c5 c6 c7 c8 c9 c10
  refine wp_region_seqS ((fun w' => AtSn w' b g k)) ((0, true) :: (1, true) :: (2, true) :: (3, true) :: (4, true) :: (5, true) :: (6, true) :: (7, true) :: (8, true) :: (9, true) :: (10, true) :: (11, true) :: (12, true) :: (13, true) :: (14, true) :: (15, true) :: []) (by kernel_rfl) (by kernel_rfl) (by kernel_rfl) (by decide) (fun _ _ _ _ _ h => h) (hA) ?_
  repeat (first | (refine seq_take (v := ?_) rfl ?_ ?_ ?_; rotate_left 1; rfl; (focus (intro wS hSw; obtain ⟨c0, c1, c2, c3, c4, c5, c6, c7, c8, c9, c10⟩ := hSw; go_simp; first | done | with_reducible rfl)); (try simp only [Act.put, List.setIfInBounds_toArray, List.set_cons_zero, List.set_cons_succ])) | (refine seq_skip rfl ?_ ?_; rfl; (try simp only [Act.put, List.setIfInBounds_toArray, List.set_cons_zero, List.set_cons_succ])))
  refine seq_done ?_
  replace HT := Lib.hid HT.out.drew
  replace HS := Lib.hid HS.out.drew
  clear hA
  (try rw [hjt])
  obtain ⟨c0, c1, c2, c3, c4, c5, c6, c7, c8, c9, c10⟩ := HT.out.at
  go_wp2_with fail
  clear c0 c1 c2 c3 c4 c5 c6 c7 c8 c9 c10
  refine wp_region_seqS ((fun w' => AtHead w' b k.t k.s k.so k.d k.who k.start)) ((0, true) :: (1, true) :: (2, true) :: (3, true) :: (4, true) :: (5, true) :: (6, true) :: (7, true) :: (8, true) :: (9, true) :: (10, false) :: (11, false) :: (12, true) :: []) (by kernel_rfl) (by kernel_rfl) (by kernel_rfl) (by decide) (fun _ _ _ _ _ h => h) (HT.out.drew.head) ?_
  repeat (first | (refine seq_take (v := ?_) rfl ?_ ?_ ?_; rotate_left 1; rfl; (focus (intro wS hSw; obtain ⟨c0, c1, c2, c3, c4, c5⟩ := hSw; go_simp; first | done | with_reducible rfl)); (try simp only [Act.put, List.setIfInBounds_toArray, List.set_cons_zero, List.set_cons_succ])) | (refine seq_skip rfl ?_ ?_; rfl; (try simp only [Act.put, List.setIfInBounds_toArray, List.set_cons_zero, List.set_cons_succ])))
  refine seq_run rfl (fun K hK => ?_)
  go_simp
  go_at_call 92
  refine (cword_any _ _ _ _ _ _).mono ?_
  rintro r w1 ⟨rfl, hb1⟩
  (try go_wp2_with fail)
  replace HT := Lib.hid (HT.out.drew.later hb1)
  replace HS := Lib.hid (HS.out.drew.later hb1)
  clear hb1
  refine hK.out _ _ (HT.out.head) (fun _ => ?_)
  (try simp only [Act.put, List.setIfInBounds_toArray, List.set_cons_zero, List.set_cons_succ])
  clear hK K
  repeat (first | (refine seq_take (v := ?_) rfl ?_ ?_ ?_; rotate_left 1; rfl; (focus (intro wS hSw; obtain ⟨c0, c1, c2, c3, c4, c5⟩ := hSw; go_simp; first | done | with_reducible rfl)); (try simp only [Act.put, List.setIfInBounds_toArray, List.set_cons_zero, List.set_cons_succ])) | (refine seq_skip rfl ?_ ?_; rfl; (try simp only [Act.put, List.setIfInBounds_toArray, List.set_cons_zero, List.set_cons_succ])))
  refine seq_run rfl (fun K hK => ?_)
  go_simp
  go_at_call 113
  refine (load_in base _ p c _ _ _ k.who j x HS.out.mem HX.out HS.out.size hL).mono ?_
  rintro r w2 ⟨rfl, v2, hT2⟩
  (try go_wp2_with fail)
  have hlt1 := HT.out.obj.lt
  have hlt2 := HT.out.gb.2
  replace HT := Lib.hid (HT.out.keep hT2.keep (HS.out.apart b (.inl rfl)) (HS.out.apart g (.inr rfl)))
  replace HS := Lib.hid (HS.out.cells (fun i hi => hi.elim (fun e => e ▸ hlt1) (fun e => e ▸ hlt2)) hT2)
  clear hT2 hlt1 hlt2
  refine hK.out _ _ (HT.out.head) (fun _ => ?_)
  (try simp only [Act.put, List.setIfInBounds_toArray, List.set_cons_zero, List.set_cons_succ])
  clear hK K
  repeat (first | (refine seq_take (v := ?_) rfl ?_ ?_ ?_; rotate_left 1; rfl; (focus (intro wS hSw; obtain ⟨c0, c1, c2, c3, c4, c5⟩ := hSw; go_simp; first | done | with_reducible rfl)); (try simp only [Act.put, List.setIfInBounds_toArray, List.set_cons_zero, List.set_cons_succ])) | (refine seq_skip rfl ?_ ?_; rfl; (try simp only [Act.put, List.setIfInBounds_toArray, List.set_cons_zero, List.set_cons_succ])))
  refine seq_done ?_
  obtain ⟨c0, c1, c2, c3, c4, c5, c6, c7, c8, c9, c10⟩ := HT.out.at
  have cx := HT.out.cell HY.out
  have fx := HT.out.row.frozenAt j
  have f6 := HT.out.obj.fz 6
  have f8 := HT.out.obj.fz 8
  have hne := HT.out.ne
  go_wp2_with fail
  have HT3 := Lib.hid (HT.out.set 6 (.int .i64 (k.read + 1)) (k' := { k with read := k.read + 1 }) rfl rfl rfl)
  have HS3 := Lib.hid (HS.out.own ((Keep.refl (fun i => i = b ∨ i = g) _).setCell ⟨b, 6, none⟩ (.inl rfl) (.int .i64 (k.read + 1))))
  clear c0 c1 c2 c3 c4 c5 c6 c7 c8 c9 c10 cx fx f6 f8
  refine wp_region_seqS ((fun w' => AtSn w' b g { k with read := k.read + 1 })) ((0, true) :: (1, true) :: (2, true) :: (3, true) :: (4, true) :: (5, true) :: (6, true) :: (7, true) :: (8, true) :: (9, true) :: []) (by kernel_rfl) (by kernel_rfl) (by kernel_rfl) (by decide) (fun _ _ _ _ _ h => h) (HT3.out.drew.at) ?_
  repeat (first | (refine seq_take (v := ?_) rfl ?_ ?_ ?_; rotate_left 1; rfl; (focus (intro wS hSw; obtain ⟨d0, d1, d2, d3, d4, d5, d6, d7, d8, d9, d10⟩ := hSw; go_simp; first | done | with_reducible rfl)); (try simp only [Act.put, List.setIfInBounds_toArray, List.set_cons_zero, List.set_cons_succ])) | (refine seq_skip rfl ?_ ?_; rfl; (try simp only [Act.put, List.setIfInBounds_toArray, List.set_cons_zero, List.set_cons_succ])))
  refine seq_done ?_
  replace HT3 := Lib.hid HT3.out.drew
  replace HS3 := Lib.hid HS3.out.drew
  obtain ⟨c0, c1, c2, c3, c4, c5, c6, c7, c8, c9, c10⟩ := HT3.out.at
  go_wp2
  go_ret
  exact ⟨rfl, _, HS3.out, HT3.out⟩

set_option maxHeartbeats 4000000 in
theorem snstep_1 (x y : Int) (j : Nat) (h4 : x ≠ y ∧ k.read + 1 ≠ (k.N : Int)) (hp : k.ph = 0) (hk : k.Ok n C) (hj : (k.start + k.read) % (k.N : Int) = (j : Int)) (hx : C[j]? = some x) (hy : k.X[j]? = some y) (hT : IsSn base w b g k) (hM : IsMem base w p c v C L) (ha : ∀ i, (i = b ∨ i = g) → ¬ Foot p c v i) (hb : base ≤ w.heap.size) (hL : L.length < 1000000000) :
    Calls Tryz.prog 107 #[pt b, pt p] w (SnPost base w b g p c v ({ k with X := k.X.set j x, turned := true, read := k.read + 1 }) C (L ++ [⟨k.who, 0, j, x, x, true⟩]) (.returned (i64 ({ k with X := k.X.set j x, turned := true, read := k.read + 1 }).ph))) := by
  obtain ⟨hl, hN, hlen, hX, s0, s1, r0, r1, p0, p1⟩ := hk
  subst hN
  have hn1 := hl.n1; have hn2 := hl.n2; have ht1 := hl.t1
  have hjN : (j : Int) < (k.N : Int) := by rw [← hj]; exact Int.emod_lt_of_pos _ (by omega)
  have hn0 : ¬ k.N = 0 := by omega
  have hjt : (k.start + k.read).tmod (k.N : Int) = (j : Int) := by rw [Int.tmod_eq_emod_of_nonneg (by omega)]; exact hj
  have e1 : IntKind.i64.wrap (k.start + k.read) = k.start + k.read := IntWalk.i64_in _ (by omega)
  have e2 : wrap64 (k.read + 1) = k.read + 1 := by unfold wrap64; omega
  have qp : (k.ph != 0) = false := by simp [hp]
  have HS := Lib.hid (Does.refl (B := fun i => i = b ∨ i = g) hM ha hb)
  have HX := Lib.hid hx
  have HY := Lib.hid hy
  have hA : AtSn w.drew b g k := hT.drew.at
  have HT := Lib.hid hT
  have qx : (x != y) = true := by simp [h4.1]
  have qr : (k.read + 1 == (k.N : Int)) = false := by simp [h4.2]
  clear h4
  have HEND := Lib.hid (fun W (k1 : Sn) (h1 : k1.passes = k.passes) (hW : IsSn base W b g k1) => snend_any base W b g k1 (by omega) (by omega) hW)
  obtain ⟨c0, c1, c2, c3, c4, c5, c6, c7, c8, c9, c10⟩ := hT.at
  clear hx hy hT hM ha hj hp hX hlen p0 p1
  go_enter Tryz.func107, Tryz.ntmps107
  go_wp2_with fail
  clear c0 c1 c2 c3 c4 c5 c6 c7 c8 c9 c10
  refine wp_region_seqS ((fun w' => AtSn w' b g k)) ((0, true) :: (1, true) :: (2, true) :: (3, true) :: (4, true) :: (5, true) :: (6, true) :: (7, true) :: (8, true) :: (9, true) :: (10, true) :: (11, true) :: (12, true) :: (13, true) :: (14, true) :: (15, true) :: []) (by kernel_rfl) (by kernel_rfl) (by kernel_rfl) (by decide) (fun _ _ _ _ _ h => h) (hA) ?_
  repeat (first | (refine seq_take (v := ?_) rfl ?_ ?_ ?_; rotate_left 1; rfl; (focus (intro wS hSw; obtain ⟨c0, c1, c2, c3, c4, c5, c6, c7, c8, c9, c10⟩ := hSw; go_simp; first | done | with_reducible rfl)); (try simp only [Act.put, List.setIfInBounds_toArray, List.set_cons_zero, List.set_cons_succ])) | (refine seq_skip rfl ?_ ?_; rfl; (try simp only [Act.put, List.setIfInBounds_toArray, List.set_cons_zero, List.set_cons_succ])))
  refine seq_done ?_
  replace HT := Lib.hid HT.out.drew
  replace HS := Lib.hid HS.out.drew
  clear hA
  (try rw [hjt])
  obtain ⟨c0, c1, c2, c3, c4, c5, c6, c7, c8, c9, c10⟩ := HT.out.at
  go_wp2_with fail
  clear c0 c1 c2 c3 c4 c5 c6 c7 c8 c9 c10
  refine wp_region_seqS ((fun w' => AtHead w' b k.t k.s k.so k.d k.who k.start)) ((0, true) :: (1, true) :: (2, true) :: (3, true) :: (4, true) :: (5, true) :: (6, true) :: (7, true) :: (8, true) :: (9, true) :: (10, false) :: (11, false) :: (12, true) :: []) (by kernel_rfl) (by kernel_rfl) (by kernel_rfl) (by decide) (fun _ _ _ _ _ h => h) (HT.out.drew.head) ?_
  repeat (first | (refine seq_take (v := ?_) rfl ?_ ?_ ?_; rotate_left 1; rfl; (focus (intro wS hSw; obtain ⟨c0, c1, c2, c3, c4, c5⟩ := hSw; go_simp; first | done | with_reducible rfl)); (try simp only [Act.put, List.setIfInBounds_toArray, List.set_cons_zero, List.set_cons_succ])) | (refine seq_skip rfl ?_ ?_; rfl; (try simp only [Act.put, List.setIfInBounds_toArray, List.set_cons_zero, List.set_cons_succ])))
  refine seq_run rfl (fun K hK => ?_)
  go_simp
  go_at_call 92
  refine (cword_any _ _ _ _ _ _).mono ?_
  rintro r w1 ⟨rfl, hb1⟩
  (try go_wp2_with fail)
  replace HT := Lib.hid (HT.out.drew.later hb1)
  replace HS := Lib.hid (HS.out.drew.later hb1)
  clear hb1
  refine hK.out _ _ (HT.out.head) (fun _ => ?_)
  (try simp only [Act.put, List.setIfInBounds_toArray, List.set_cons_zero, List.set_cons_succ])
  clear hK K
  repeat (first | (refine seq_take (v := ?_) rfl ?_ ?_ ?_; rotate_left 1; rfl; (focus (intro wS hSw; obtain ⟨c0, c1, c2, c3, c4, c5⟩ := hSw; go_simp; first | done | with_reducible rfl)); (try simp only [Act.put, List.setIfInBounds_toArray, List.set_cons_zero, List.set_cons_succ])) | (refine seq_skip rfl ?_ ?_; rfl; (try simp only [Act.put, List.setIfInBounds_toArray, List.set_cons_zero, List.set_cons_succ])))
  refine seq_run rfl (fun K hK => ?_)
  go_simp
  go_at_call 113
  refine (load_in base _ p c _ _ _ k.who j x HS.out.mem HX.out HS.out.size hL).mono ?_
  rintro r w2 ⟨rfl, v2, hT2⟩
  (try go_wp2_with fail)
  have hlt1 := HT.out.obj.lt
  have hlt2 := HT.out.gb.2
  replace HT := Lib.hid (HT.out.keep hT2.keep (HS.out.apart b (.inl rfl)) (HS.out.apart g (.inr rfl)))
  replace HS := Lib.hid (HS.out.cells (fun i hi => hi.elim (fun e => e ▸ hlt1) (fun e => e ▸ hlt2)) hT2)
  clear hT2 hlt1 hlt2
  refine hK.out _ _ (HT.out.head) (fun _ => ?_)
  (try simp only [Act.put, List.setIfInBounds_toArray, List.set_cons_zero, List.set_cons_succ])
  clear hK K
  repeat (first | (refine seq_take (v := ?_) rfl ?_ ?_ ?_; rotate_left 1; rfl; (focus (intro wS hSw; obtain ⟨c0, c1, c2, c3, c4, c5⟩ := hSw; go_simp; first | done | with_reducible rfl)); (try simp only [Act.put, List.setIfInBounds_toArray, List.set_cons_zero, List.set_cons_succ])) | (refine seq_skip rfl ?_ ?_; rfl; (try simp only [Act.put, List.setIfInBounds_toArray, List.set_cons_zero, List.set_cons_succ])))
  refine seq_done ?_
  obtain ⟨c0, c1, c2, c3, c4, c5, c6, c7, c8, c9, c10⟩ := HT.out.at
  have cx := HT.out.cell HY.out
  have fx := HT.out.row.frozenAt j
  have f6 := HT.out.obj.fz 6
  have f8 := HT.out.obj.fz 8
  have hne := HT.out.ne
  go_wp2_with fail
  have HT3 := Lib.hid (((HT.out.word j x).set 8 (.bool true) (k' := { k with X := k.X.set j x, turned := true }) rfl rfl rfl).set 6 (.int .i64 (k.read + 1)) (k' := { k with X := k.X.set j x, turned := true, read := k.read + 1 }) rfl rfl rfl)
  have HS3 := Lib.hid (HS.out.own ((((Keep.refl (fun i => i = b ∨ i = g) _).setCell ⟨g, j, none⟩ (.inr rfl) (u64 x)).setCell ⟨b, 8, none⟩ (.inl rfl) (.bool true)).setCell ⟨b, 6, none⟩ (.inl rfl) (.int .i64 (k.read + 1))))
  clear c0 c1 c2 c3 c4 c5 c6 c7 c8 c9 c10 cx fx f6 f8
  refine wp_region_seqS ((fun w' => AtSn w' b g { k with X := k.X.set j x, turned := true, read := k.read + 1 })) ((0, true) :: (1, true) :: (2, true) :: (3, true) :: (4, true) :: (5, true) :: (6, true) :: (7, true) :: (8, true) :: (9, true) :: []) (by kernel_rfl) (by kernel_rfl) (by kernel_rfl) (by decide) (fun _ _ _ _ _ h => h) (HT3.out.drew.at) ?_
  repeat (first | (refine seq_take (v := ?_) rfl ?_ ?_ ?_; rotate_left 1; rfl; (focus (intro wS hSw; obtain ⟨d0, d1, d2, d3, d4, d5, d6, d7, d8, d9, d10⟩ := hSw; go_simp; first | done | with_reducible rfl)); (try simp only [Act.put, List.setIfInBounds_toArray, List.set_cons_zero, List.set_cons_succ])) | (refine seq_skip rfl ?_ ?_; rfl; (try simp only [Act.put, List.setIfInBounds_toArray, List.set_cons_zero, List.set_cons_succ])))
  refine seq_done ?_
  replace HT3 := Lib.hid HT3.out.drew
  replace HS3 := Lib.hid HS3.out.drew
  obtain ⟨c0, c1, c2, c3, c4, c5, c6, c7, c8, c9, c10⟩ := HT3.out.at
  go_wp2
  go_ret
  exact ⟨rfl, _, HS3.out, HT3.out⟩

set_option maxHeartbeats 4000000 in
theorem snstep_2 (x y : Int) (j : Nat) (h4 : x = y ∧ k.read + 1 = (k.N : Int)) (hp : k.ph = 0) (hk : k.Ok n C) (hj : (k.start + k.read) % (k.N : Int) = (j : Int)) (hx : C[j]? = some x) (hy : k.X[j]? = some y) (hT : IsSn base w b g k) (hM : IsMem base w p c v C L) (ha : ∀ i, (i = b ∨ i = g) → ¬ Foot p c v i) (hb : base ≤ w.heap.size) (hL : L.length < 1000000000) :
    Calls Tryz.prog 107 #[pt b, pt p] w (SnPost base w b g p c v (Sn.fin { k with read := k.read + 1 }) C (L ++ [⟨k.who, 0, j, x, x, true⟩]) (.returned (i64 (Sn.fin { k with read := k.read + 1 }).ph))) := by
  obtain ⟨hl, hN, hlen, hX, s0, s1, r0, r1, p0, p1⟩ := hk
  subst hN
  have hn1 := hl.n1; have hn2 := hl.n2; have ht1 := hl.t1
  have hjN : (j : Int) < (k.N : Int) := by rw [← hj]; exact Int.emod_lt_of_pos _ (by omega)
  have hn0 : ¬ k.N = 0 := by omega
  have hjt : (k.start + k.read).tmod (k.N : Int) = (j : Int) := by rw [Int.tmod_eq_emod_of_nonneg (by omega)]; exact hj
  have e1 : IntKind.i64.wrap (k.start + k.read) = k.start + k.read := IntWalk.i64_in _ (by omega)
  have e2 : wrap64 (k.read + 1) = k.read + 1 := by unfold wrap64; omega
  have qp : (k.ph != 0) = false := by simp [hp]
  have HS := Lib.hid (Does.refl (B := fun i => i = b ∨ i = g) hM ha hb)
  have HX := Lib.hid hx
  have HY := Lib.hid hy
  have hA : AtSn w.drew b g k := hT.drew.at
  have HT := Lib.hid hT
  have qx : (x != y) = false := by simp [h4.1]
  have qr : (k.read + 1 == (k.N : Int)) = true := by simp [h4.2]
  clear h4
  have HEND := Lib.hid (fun W (k1 : Sn) (h1 : k1.passes = k.passes) (hW : IsSn base W b g k1) => snend_any base W b g k1 (by omega) (by omega) hW)
  obtain ⟨c0, c1, c2, c3, c4, c5, c6, c7, c8, c9, c10⟩ := hT.at
  clear hx hy hT hM ha hj hp hX hlen p0 p1
  go_enter Tryz.func107, Tryz.ntmps107
  go_wp2_with fail
  clear c0 c1 c2 c3 c4 c5 c6 c7 c8 c9 c10
  refine wp_region_seqS ((fun w' => AtSn w' b g k)) ((0, true) :: (1, true) :: (2, true) :: (3, true) :: (4, true) :: (5, true) :: (6, true) :: (7, true) :: (8, true) :: (9, true) :: (10, true) :: (11, true) :: (12, true) :: (13, true) :: (14, true) :: (15, true) :: []) (by kernel_rfl) (by kernel_rfl) (by kernel_rfl) (by decide) (fun _ _ _ _ _ h => h) (hA) ?_
  repeat (first | (refine seq_take (v := ?_) rfl ?_ ?_ ?_; rotate_left 1; rfl; (focus (intro wS hSw; obtain ⟨c0, c1, c2, c3, c4, c5, c6, c7, c8, c9, c10⟩ := hSw; go_simp; first | done | with_reducible rfl)); (try simp only [Act.put, List.setIfInBounds_toArray, List.set_cons_zero, List.set_cons_succ])) | (refine seq_skip rfl ?_ ?_; rfl; (try simp only [Act.put, List.setIfInBounds_toArray, List.set_cons_zero, List.set_cons_succ])))
  refine seq_done ?_
  replace HT := Lib.hid HT.out.drew
  replace HS := Lib.hid HS.out.drew
  clear hA
  (try rw [hjt])
  obtain ⟨c0, c1, c2, c3, c4, c5, c6, c7, c8, c9, c10⟩ := HT.out.at
  go_wp2_with fail
  clear c0 c1 c2 c3 c4 c5 c6 c7 c8 c9 c10
  refine wp_region_seqS ((fun w' => AtHead w' b k.t k.s k.so k.d k.who k.start)) ((0, true) :: (1, true) :: (2, true) :: (3, true) :: (4, true) :: (5, true) :: (6, true) :: (7, true) :: (8, true) :: (9, true) :: (10, false) :: (11, false) :: (12, true) :: []) (by kernel_rfl) (by kernel_rfl) (by kernel_rfl) (by decide) (fun _ _ _ _ _ h => h) (HT.out.drew.head) ?_
  repeat (first | (refine seq_take (v := ?_) rfl ?_ ?_ ?_; rotate_left 1; rfl; (focus (intro wS hSw; obtain ⟨c0, c1, c2, c3, c4, c5⟩ := hSw; go_simp; first | done | with_reducible rfl)); (try simp only [Act.put, List.setIfInBounds_toArray, List.set_cons_zero, List.set_cons_succ])) | (refine seq_skip rfl ?_ ?_; rfl; (try simp only [Act.put, List.setIfInBounds_toArray, List.set_cons_zero, List.set_cons_succ])))
  refine seq_run rfl (fun K hK => ?_)
  go_simp
  go_at_call 92
  refine (cword_any _ _ _ _ _ _).mono ?_
  rintro r w1 ⟨rfl, hb1⟩
  (try go_wp2_with fail)
  replace HT := Lib.hid (HT.out.drew.later hb1)
  replace HS := Lib.hid (HS.out.drew.later hb1)
  clear hb1
  refine hK.out _ _ (HT.out.head) (fun _ => ?_)
  (try simp only [Act.put, List.setIfInBounds_toArray, List.set_cons_zero, List.set_cons_succ])
  clear hK K
  repeat (first | (refine seq_take (v := ?_) rfl ?_ ?_ ?_; rotate_left 1; rfl; (focus (intro wS hSw; obtain ⟨c0, c1, c2, c3, c4, c5⟩ := hSw; go_simp; first | done | with_reducible rfl)); (try simp only [Act.put, List.setIfInBounds_toArray, List.set_cons_zero, List.set_cons_succ])) | (refine seq_skip rfl ?_ ?_; rfl; (try simp only [Act.put, List.setIfInBounds_toArray, List.set_cons_zero, List.set_cons_succ])))
  refine seq_run rfl (fun K hK => ?_)
  go_simp
  go_at_call 113
  refine (load_in base _ p c _ _ _ k.who j x HS.out.mem HX.out HS.out.size hL).mono ?_
  rintro r w2 ⟨rfl, v2, hT2⟩
  (try go_wp2_with fail)
  have hlt1 := HT.out.obj.lt
  have hlt2 := HT.out.gb.2
  replace HT := Lib.hid (HT.out.keep hT2.keep (HS.out.apart b (.inl rfl)) (HS.out.apart g (.inr rfl)))
  replace HS := Lib.hid (HS.out.cells (fun i hi => hi.elim (fun e => e ▸ hlt1) (fun e => e ▸ hlt2)) hT2)
  clear hT2 hlt1 hlt2
  refine hK.out _ _ (HT.out.head) (fun _ => ?_)
  (try simp only [Act.put, List.setIfInBounds_toArray, List.set_cons_zero, List.set_cons_succ])
  clear hK K
  repeat (first | (refine seq_take (v := ?_) rfl ?_ ?_ ?_; rotate_left 1; rfl; (focus (intro wS hSw; obtain ⟨c0, c1, c2, c3, c4, c5⟩ := hSw; go_simp; first | done | with_reducible rfl)); (try simp only [Act.put, List.setIfInBounds_toArray, List.set_cons_zero, List.set_cons_succ])) | (refine seq_skip rfl ?_ ?_; rfl; (try simp only [Act.put, List.setIfInBounds_toArray, List.set_cons_zero, List.set_cons_succ])))
  refine seq_done ?_
  obtain ⟨c0, c1, c2, c3, c4, c5, c6, c7, c8, c9, c10⟩ := HT.out.at
  have cx := HT.out.cell HY.out
  have fx := HT.out.row.frozenAt j
  have f6 := HT.out.obj.fz 6
  have f8 := HT.out.obj.fz 8
  have hne := HT.out.ne
  go_wp2_with fail
  have HT3 := Lib.hid (HT.out.set 6 (.int .i64 (k.read + 1)) (k' := { k with read := k.read + 1 }) rfl rfl rfl)
  have HS3 := Lib.hid (HS.out.own ((Keep.refl (fun i => i = b ∨ i = g) _).setCell ⟨b, 6, none⟩ (.inl rfl) (.int .i64 (k.read + 1))))
  clear c0 c1 c2 c3 c4 c5 c6 c7 c8 c9 c10 cx fx f6 f8
  refine wp_region_seqS ((fun w' => AtSn w' b g { k with read := k.read + 1 })) ((0, true) :: (1, true) :: (2, true) :: (3, true) :: (4, true) :: (5, true) :: (6, true) :: (7, true) :: (8, true) :: (9, true) :: []) (by kernel_rfl) (by kernel_rfl) (by kernel_rfl) (by decide) (fun _ _ _ _ _ h => h) (HT3.out.drew.at) ?_
  repeat (first | (refine seq_take (v := ?_) rfl ?_ ?_ ?_; rotate_left 1; rfl; (focus (intro wS hSw; obtain ⟨d0, d1, d2, d3, d4, d5, d6, d7, d8, d9, d10⟩ := hSw; go_simp; first | done | with_reducible rfl)); (try simp only [Act.put, List.setIfInBounds_toArray, List.set_cons_zero, List.set_cons_succ])) | (refine seq_skip rfl ?_ ?_; rfl; (try simp only [Act.put, List.setIfInBounds_toArray, List.set_cons_zero, List.set_cons_succ])))
  refine seq_done ?_
  replace HT3 := Lib.hid HT3.out.drew
  replace HS3 := Lib.hid HS3.out.drew
  go_wp2_with fail
  refine (HEND.out _ { k with read := k.read + 1 } rfl HT3.out).mono ?_
  rintro r w5 ⟨rfl, hT5, hK5⟩
  have HS5 := Lib.hid (HS3.out.own (hK5.mono fun i h => .inl h))
  have HT5 := Lib.hid hT5
  clear hT5 hK5
  obtain ⟨c0, c1, c2, c3, c4, c5, c6, c7, c8, c9, c10⟩ := HT5.out.at
  go_wp2
  go_ret
  exact ⟨rfl, _, HS5.out, HT5.out⟩

set_option maxHeartbeats 4000000 in
theorem snstep_3 (x y : Int) (j : Nat) (h4 : x ≠ y ∧ k.read + 1 = (k.N : Int)) (hp : k.ph = 0) (hk : k.Ok n C) (hj : (k.start + k.read) % (k.N : Int) = (j : Int)) (hx : C[j]? = some x) (hy : k.X[j]? = some y) (hT : IsSn base w b g k) (hM : IsMem base w p c v C L) (ha : ∀ i, (i = b ∨ i = g) → ¬ Foot p c v i) (hb : base ≤ w.heap.size) (hL : L.length < 1000000000) :
    Calls Tryz.prog 107 #[pt b, pt p] w (SnPost base w b g p c v (Sn.fin { k with X := k.X.set j x, turned := true, read := k.read + 1 }) C (L ++ [⟨k.who, 0, j, x, x, true⟩]) (.returned (i64 (Sn.fin { k with X := k.X.set j x, turned := true, read := k.read + 1 }).ph))) := by
  obtain ⟨hl, hN, hlen, hX, s0, s1, r0, r1, p0, p1⟩ := hk
  subst hN
  have hn1 := hl.n1; have hn2 := hl.n2; have ht1 := hl.t1
  have hjN : (j : Int) < (k.N : Int) := by rw [← hj]; exact Int.emod_lt_of_pos _ (by omega)
  have hn0 : ¬ k.N = 0 := by omega
  have hjt : (k.start + k.read).tmod (k.N : Int) = (j : Int) := by rw [Int.tmod_eq_emod_of_nonneg (by omega)]; exact hj
  have e1 : IntKind.i64.wrap (k.start + k.read) = k.start + k.read := IntWalk.i64_in _ (by omega)
  have e2 : wrap64 (k.read + 1) = k.read + 1 := by unfold wrap64; omega
  have qp : (k.ph != 0) = false := by simp [hp]
  have HS := Lib.hid (Does.refl (B := fun i => i = b ∨ i = g) hM ha hb)
  have HX := Lib.hid hx
  have HY := Lib.hid hy
  have hA : AtSn w.drew b g k := hT.drew.at
  have HT := Lib.hid hT
  have qx : (x != y) = true := by simp [h4.1]
  have qr : (k.read + 1 == (k.N : Int)) = true := by simp [h4.2]
  clear h4
  have HEND := Lib.hid (fun W (k1 : Sn) (h1 : k1.passes = k.passes) (hW : IsSn base W b g k1) => snend_any base W b g k1 (by omega) (by omega) hW)
  obtain ⟨c0, c1, c2, c3, c4, c5, c6, c7, c8, c9, c10⟩ := hT.at
  clear hx hy hT hM ha hj hp hX hlen p0 p1
  go_enter Tryz.func107, Tryz.ntmps107
  go_wp2_with fail
  clear c0 c1 c2 c3 c4 c5 c6 c7 c8 c9 c10
  refine wp_region_seqS ((fun w' => AtSn w' b g k)) ((0, true) :: (1, true) :: (2, true) :: (3, true) :: (4, true) :: (5, true) :: (6, true) :: (7, true) :: (8, true) :: (9, true) :: (10, true) :: (11, true) :: (12, true) :: (13, true) :: (14, true) :: (15, true) :: []) (by kernel_rfl) (by kernel_rfl) (by kernel_rfl) (by decide) (fun _ _ _ _ _ h => h) (hA) ?_
  repeat (first | (refine seq_take (v := ?_) rfl ?_ ?_ ?_; rotate_left 1; rfl; (focus (intro wS hSw; obtain ⟨c0, c1, c2, c3, c4, c5, c6, c7, c8, c9, c10⟩ := hSw; go_simp; first | done | with_reducible rfl)); (try simp only [Act.put, List.setIfInBounds_toArray, List.set_cons_zero, List.set_cons_succ])) | (refine seq_skip rfl ?_ ?_; rfl; (try simp only [Act.put, List.setIfInBounds_toArray, List.set_cons_zero, List.set_cons_succ])))
  refine seq_done ?_
  replace HT := Lib.hid HT.out.drew
  replace HS := Lib.hid HS.out.drew
  clear hA
  (try rw [hjt])
  obtain ⟨c0, c1, c2, c3, c4, c5, c6, c7, c8, c9, c10⟩ := HT.out.at
  go_wp2_with fail
  clear c0 c1 c2 c3 c4 c5 c6 c7 c8 c9 c10
  refine wp_region_seqS ((fun w' => AtHead w' b k.t k.s k.so k.d k.who k.start)) ((0, true) :: (1, true) :: (2, true) :: (3, true) :: (4, true) :: (5, true) :: (6, true) :: (7, true) :: (8, true) :: (9, true) :: (10, false) :: (11, false) :: (12, true) :: []) (by kernel_rfl) (by kernel_rfl) (by kernel_rfl) (by decide) (fun _ _ _ _ _ h => h) (HT.out.drew.head) ?_
  repeat (first | (refine seq_take (v := ?_) rfl ?_ ?_ ?_; rotate_left 1; rfl; (focus (intro wS hSw; obtain ⟨c0, c1, c2, c3, c4, c5⟩ := hSw; go_simp; first | done | with_reducible rfl)); (try simp only [Act.put, List.setIfInBounds_toArray, List.set_cons_zero, List.set_cons_succ])) | (refine seq_skip rfl ?_ ?_; rfl; (try simp only [Act.put, List.setIfInBounds_toArray, List.set_cons_zero, List.set_cons_succ])))
  refine seq_run rfl (fun K hK => ?_)
  go_simp
  go_at_call 92
  refine (cword_any _ _ _ _ _ _).mono ?_
  rintro r w1 ⟨rfl, hb1⟩
  (try go_wp2_with fail)
  replace HT := Lib.hid (HT.out.drew.later hb1)
  replace HS := Lib.hid (HS.out.drew.later hb1)
  clear hb1
  refine hK.out _ _ (HT.out.head) (fun _ => ?_)
  (try simp only [Act.put, List.setIfInBounds_toArray, List.set_cons_zero, List.set_cons_succ])
  clear hK K
  repeat (first | (refine seq_take (v := ?_) rfl ?_ ?_ ?_; rotate_left 1; rfl; (focus (intro wS hSw; obtain ⟨c0, c1, c2, c3, c4, c5⟩ := hSw; go_simp; first | done | with_reducible rfl)); (try simp only [Act.put, List.setIfInBounds_toArray, List.set_cons_zero, List.set_cons_succ])) | (refine seq_skip rfl ?_ ?_; rfl; (try simp only [Act.put, List.setIfInBounds_toArray, List.set_cons_zero, List.set_cons_succ])))
  refine seq_run rfl (fun K hK => ?_)
  go_simp
  go_at_call 113
  refine (load_in base _ p c _ _ _ k.who j x HS.out.mem HX.out HS.out.size hL).mono ?_
  rintro r w2 ⟨rfl, v2, hT2⟩
  (try go_wp2_with fail)
  have hlt1 := HT.out.obj.lt
  have hlt2 := HT.out.gb.2
  replace HT := Lib.hid (HT.out.keep hT2.keep (HS.out.apart b (.inl rfl)) (HS.out.apart g (.inr rfl)))
  replace HS := Lib.hid (HS.out.cells (fun i hi => hi.elim (fun e => e ▸ hlt1) (fun e => e ▸ hlt2)) hT2)
  clear hT2 hlt1 hlt2
  refine hK.out _ _ (HT.out.head) (fun _ => ?_)
  (try simp only [Act.put, List.setIfInBounds_toArray, List.set_cons_zero, List.set_cons_succ])
  clear hK K
  repeat (first | (refine seq_take (v := ?_) rfl ?_ ?_ ?_; rotate_left 1; rfl; (focus (intro wS hSw; obtain ⟨c0, c1, c2, c3, c4, c5⟩ := hSw; go_simp; first | done | with_reducible rfl)); (try simp only [Act.put, List.setIfInBounds_toArray, List.set_cons_zero, List.set_cons_succ])) | (refine seq_skip rfl ?_ ?_; rfl; (try simp only [Act.put, List.setIfInBounds_toArray, List.set_cons_zero, List.set_cons_succ])))
  refine seq_done ?_
  obtain ⟨c0, c1, c2, c3, c4, c5, c6, c7, c8, c9, c10⟩ := HT.out.at
  have cx := HT.out.cell HY.out
  have fx := HT.out.row.frozenAt j
  have f6 := HT.out.obj.fz 6
  have f8 := HT.out.obj.fz 8
  have hne := HT.out.ne
  go_wp2_with fail
  have HT3 := Lib.hid (((HT.out.word j x).set 8 (.bool true) (k' := { k with X := k.X.set j x, turned := true }) rfl rfl rfl).set 6 (.int .i64 (k.read + 1)) (k' := { k with X := k.X.set j x, turned := true, read := k.read + 1 }) rfl rfl rfl)
  have HS3 := Lib.hid (HS.out.own ((((Keep.refl (fun i => i = b ∨ i = g) _).setCell ⟨g, j, none⟩ (.inr rfl) (u64 x)).setCell ⟨b, 8, none⟩ (.inl rfl) (.bool true)).setCell ⟨b, 6, none⟩ (.inl rfl) (.int .i64 (k.read + 1))))
  clear c0 c1 c2 c3 c4 c5 c6 c7 c8 c9 c10 cx fx f6 f8
  refine wp_region_seqS ((fun w' => AtSn w' b g { k with X := k.X.set j x, turned := true, read := k.read + 1 })) ((0, true) :: (1, true) :: (2, true) :: (3, true) :: (4, true) :: (5, true) :: (6, true) :: (7, true) :: (8, true) :: (9, true) :: []) (by kernel_rfl) (by kernel_rfl) (by kernel_rfl) (by decide) (fun _ _ _ _ _ h => h) (HT3.out.drew.at) ?_
  repeat (first | (refine seq_take (v := ?_) rfl ?_ ?_ ?_; rotate_left 1; rfl; (focus (intro wS hSw; obtain ⟨d0, d1, d2, d3, d4, d5, d6, d7, d8, d9, d10⟩ := hSw; go_simp; first | done | with_reducible rfl)); (try simp only [Act.put, List.setIfInBounds_toArray, List.set_cons_zero, List.set_cons_succ])) | (refine seq_skip rfl ?_ ?_; rfl; (try simp only [Act.put, List.setIfInBounds_toArray, List.set_cons_zero, List.set_cons_succ])))
  refine seq_done ?_
  replace HT3 := Lib.hid HT3.out.drew
  replace HS3 := Lib.hid HS3.out.drew
  go_wp2_with fail
  refine (HEND.out _ { k with X := k.X.set j x, turned := true, read := k.read + 1 } rfl HT3.out).mono ?_
  rintro r w5 ⟨rfl, hT5, hK5⟩
  have HS5 := Lib.hid (HS3.out.own (hK5.mono fun i h => .inl h))
  have HT5 := Lib.hid hT5
  clear hT5 hK5
  obtain ⟨c0, c1, c2, c3, c4, c5, c6, c7, c8, c9, c10⟩ := HT5.out.at
  go_wp2
  go_ret
  exact ⟨rfl, _, HS5.out, HT5.out⟩

/-- A step does what 'Sn.step' says. -/
theorem snstep_any (hk : k.Ok n C) (hT : IsSn base w b g k) (hM : IsMem base w p c v C L) (ha : ∀ i, (i = b ∨ i = g) → ¬ Foot p c v i) (hb : base ≤ w.heap.size) (hL : L.length < 1000000000) :
    Calls Tryz.prog 107 #[pt b, pt p] w (SnPost base w b g p c v (k.step C) C (L ++ k.ev C) (.returned (i64 (k.step C).ph))) := by
  have hn1 := hk.lay.n1; have hn2 := hk.lay.n2; have ht1 := hk.lay.t1
  have hN := hk.N; have hlen := hk.len; have hX := hk.X
  unfold Sn.step Sn.ev
  by_cases hp : k.ph = 0
  · rw [if_pos hp, if_pos hp]
    have hm0 := Int.emod_nonneg (k.start + k.read) (show (k.N : Int) ≠ 0 by omega)
    have hm1 := Int.emod_lt_of_pos (k.start + k.read) (show (0 : Int) < (k.N : Int) by omega)
    have hj : (k.start + k.read) % (k.N : Int) = (k.slot : Int) := by unfold Sn.slot; omega
    have hjN : k.slot < k.N := by omega
    have hx : C[k.slot]? = some (C.getD k.slot 0) := getD_at (by omega)
    have hy : k.X[k.slot]? = some (k.X.getD k.slot 0) := getD_at (by omega)
    generalize hxx : C.getD k.slot 0 = x at hx ⊢
    generalize hyy : k.X.getD k.slot 0 = y at hy
    have hput : k.put x = if x = y then { k with read := k.read + 1 } else { k with X := k.X.set k.slot x, turned := true, read := k.read + 1 } := by
      unfold Sn.put
      rw [hyy]
      by_cases he : x = y
      · rw [if_pos he, he, set_same hy]
        simp
      · rw [if_neg he]
        simp [he]
    by_cases he : x = y
    · rw [if_pos he] at hput
      rw [hput]
      by_cases hr : k.read + 1 = (k.N : Int)
      · rw [if_pos hr]
        exact snstep_2 base w b g p c v C L k n x y k.slot ⟨he, hr⟩ hp hk hj hx hy hT hM ha hb hL
      · rw [if_neg hr]
        exact snstep_0 base w b g p c v C L k n x y k.slot ⟨he, hr⟩ hp hk hj hx hy hT hM ha hb hL
    · rw [if_neg he] at hput
      rw [hput]
      by_cases hr : k.read + 1 = (k.N : Int)
      · rw [if_pos hr]
        exact snstep_3 base w b g p c v C L k n x y k.slot ⟨he, hr⟩ hp hk hj hx hy hT hM ha hb hL
      · rw [if_neg hr]
        exact snstep_1 base w b g p c v C L k n x y k.slot ⟨he, hr⟩ hp hk hj hx hy hT hM ha hb hL
  · rw [if_neg hp, if_neg hp, List.append_nil]
    exact snstep_rest base w b g p c v C L k hp hT hM ha hb
end
end

section
open Go.RowKit
set_option linter.unusedVariables false

/-- How far it is, in natural numbers. -/
structure SnAt (k : Sn) (N st r P : Nat) : Prop where
  hN : k.N = N
  start : k.start = (st : Int)
  read : k.read = (r : Int)
  passes : k.passes = (P : Int)
  X : k.X.length = N
  s1 : st < N
  r1 : r < N

/-- What a step never turns. -/
def SnSame (k k' : Sn) : Prop := k'.t = k.t ∧ k'.s = k.s ∧ k'.so = k.so ∧ k'.d = k.d ∧ k'.who = k.who
theorem SnSame.trans {a b c : Sn} (h : SnSame a b) (h' : SnSame b c) : SnSame a c :=
  ⟨h'.1.trans h.1, h'.2.1.trans h.2.1, h'.2.2.1.trans h.2.2.1, h'.2.2.2.1.trans h.2.2.2.1, h'.2.2.2.2.trans h.2.2.2.2⟩

section
variable {k : Sn} {N st r P : Nat} {C : List Int}

theorem SnAt.slot (h : SnAt k N st r P) : k.slot = (st + r) % N := by
  unfold Sn.slot
  rw [h.hN, h.start, h.read, ← Int.natCast_add, ← Int.natCast_emod, Int.toNat_natCast]
theorem SnAt.slot_lt (h : SnAt k N st r P) : k.slot < N := by
  rw [h.slot]
  exact Nat.mod_lt _ (by have := h.r1; omega)

theorem slot_inj {N st r q : Nat} (h : r < q) (hq : q < N) : (st + r) % N ≠ (st + q) % N := by
  intro e
  have := Nat.sub_mod_eq_zero_of_mod_eq e.symm
  rw [show st + q - (st + r) = q - r by omega, Nat.mod_eq_of_lt (by omega)] at this
  omega
theorem slot_sur {N st j : Nat} (hs : st < N) (hj : j < N) : ∃ q, q < N ∧ (st + q) % N = j := by
  by_cases h : st ≤ j
  · exact ⟨j - st, by omega, by rw [show st + (j - st) = j by omega, Nat.mod_eq_of_lt hj]⟩
  · exact ⟨j + N - st, by omega, by rw [show st + (j + N - st) = j + N by omega, Nat.add_mod_right, Nat.mod_eq_of_lt hj]⟩

theorem SnAt.mid (h : SnAt k N st r P) (hp : k.ph = 0) (hr : r + 1 < N) :
    SnAt (k.step C) N st (r + 1) P ∧ (k.step C).ph = 0 ∧ SnSame k (k.step C) ∧ (k.step C).X = k.X.set k.slot (C.getD k.slot 0) ∧ (k.step C).turned = (k.turned || decide (C.getD k.slot 0 ≠ k.X.getD k.slot 0)) := by
  have hN := h.hN
  have hr2 := h.read
  have e : k.step C = k.put (C.getD k.slot 0) := by
    unfold Sn.step
    rw [if_pos hp, if_neg (by omega)]
  rw [e]
  exact ⟨⟨h.hN, h.start, by show k.read + 1 = _; omega, h.passes, by show (k.X.set _ _).length = N; rw [List.length_set]; exact h.X, h.s1, hr⟩, hp, ⟨rfl, rfl, rfl, rfl, rfl⟩, rfl, rfl⟩

theorem SnAt.last (h : SnAt k N st r P) (hp : k.ph = 0) (hr : r + 1 = N) :
    SnAt (k.step C) N st 0 (P + 1) ∧ SnSame k (k.step C) ∧ (k.step C).X = k.X.set k.slot (C.getD k.slot 0) ∧ (k.step C).turned = false ∧
      (k.step C).ph = if 1 ≤ P ∧ (k.turned || decide (C.getD k.slot 0 ≠ k.X.getD k.slot 0)) = false then 1 else 0 := by
  have hN := h.hN
  have hr2 := h.read
  have hP := h.passes
  have e : k.step C = (k.put (C.getD k.slot 0)).fin := by
    unfold Sn.step
    rw [if_pos hp, if_pos (by omega)]
  rw [e]
  refine ⟨⟨h.hN, h.start, rfl, by show k.passes + 1 = _; omega, by show (k.X.set _ _).length = N; rw [List.length_set]; exact h.X, h.s1, by have := h.r1; omega⟩, ⟨rfl, rfl, rfl, rfl, rfl⟩, rfl, rfl, ?_⟩
  show (if 1 < k.passes + 1 ∧ (k.turned || decide (C.getD k.slot 0 ≠ k.X.getD k.slot 0)) = false then 1 else k.ph) = _
  rw [hp]
  by_cases hc : 1 ≤ P ∧ (k.turned || decide (C.getD k.slot 0 ≠ k.X.getD k.slot 0)) = false
  · rw [if_pos hc, if_pos ⟨by omega, hc.2⟩]
  · rw [if_neg hc, if_neg (fun h2 => hc ⟨by omega, h2.2⟩)]

theorem SnAt.ok (h : SnAt k N st r P) {n : Int} (hl : Lay k.t k.s n) (hN : (N : Int) = n) (hlen : (C.length : Int) = 2 * n + 2 * k.t) (hP : P ≤ 1000000) : k.Ok n C :=
  have h1 := h.hN; have h2 := h.start; have h3 := h.read; have h4 := h.passes; have h5 := h.X; have h6 := h.s1; have h7 := h.r1
  ⟨hl, by omega, hlen, by omega, by omega, by omega, by omega, by omega, by omega, by omega⟩

/-- While it goes on: last is the pass in which a word was turned at last, B bounds how many passes there were. -/
structure QInv (k : Sn) (C : List Int) (N st r P B : Nat) (last : Int) : Prop where
  at' : SnAt k N st r P
  ph : k.ph = 0
  a : last ≠ P → ∀ q, q < r → k.X.getD ((st + q) % N) 0 = C.getD ((st + q) % N) 0
  b : 1 ≤ P → last < (P : Int) - 1 → (∀ j, j < N → k.X.getD j 0 = C.getD j 0) ∧ k.turned = false
  c1 : last = P → P + 1 ≤ B
  c2 : last ≠ P → (P = 0 ∨ last = (P : Int) - 1) → P ≤ B
  c3 : P ≤ B + 1
  l : last ≤ P

/-- When it is done. -/
structure DInv (k : Sn) (C : List Int) (N st P B : Nat) (last : Int) : Prop where
  at' : SnAt k N st 0 P
  ph : k.ph = 1
  p : 2 ≤ P
  b : P ≤ B + 2
  x : last < (P : Int) - 1 → ∀ j, j < N → k.X.getD j 0 = C.getD j 0

theorem sn0_at (t s so d who : Int) (N st : Nat) (hs : st < N) : SnAt (sn0 t s so d who st N) N st 0 0 :=
  ⟨rfl, rfl, rfl, rfl, List.length_replicate, hs, by omega⟩
theorem QInv.start (t s so d who : Int) (C : List Int) (N st B : Nat) (hs : st < N) : QInv (sn0 t s so d who st N) C N st 0 0 B (-1) :=
  ⟨sn0_at t s so d who N st hs, rfl, fun _ q hq => by omega, fun h => by omega, fun h => by simp at h, fun _ _ => by omega, by omega, by decide⟩

/-- A word is turned. -/
theorem QInv.store {last : Int} {B : Nat} (h : QInv k C N st r P B last) (C' : List Int) : QInv k C' N st r P (if last = (P : Int) then B else B + 2) P := by
  have h1 := h.c1; have h3 := h.c3
  refine ⟨h.at', h.ph, fun e => absurd rfl e, fun _ e => by omega, fun _ => ?_, fun e => absurd rfl e, ?_, Int.le_refl _⟩
  · split
    · rename_i e
      exact h1 e
    · omega
  · split <;> omega

theorem set_getD (X : List Int) (j i : Nat) (x : Int) (hj : j < X.length) : (X.set j x).getD i 0 = if j = i then x else X.getD i 0 := by
  rw [getD_set']
  by_cases h : j = i
  · subst h
    rw [if_pos ⟨rfl, hj⟩, if_pos rfl]
  · rw [if_neg (fun e => h e.1), if_neg h]

theorem QInv.mid {last : Int} {B : Nat} (h : QInv k C N st r P B last) (hr : r + 1 < N) : QInv (k.step C) C N st (r + 1) P B last := by
  obtain ⟨m1, m2, m3, m4, m5⟩ := h.at'.mid (C := C) h.ph hr
  have hsl := h.at'.slot
  have hlt := h.at'.slot_lt
  have hX := h.at'.X
  refine ⟨m1, m2, fun hl q hq => ?_, fun hP hl => ?_, h.c1, h.c2, h.c3, h.l⟩
  · rw [m4, set_getD _ _ _ _ (by omega), hsl]
    split
    · rename_i e
      rw [e]
    · rename_i e
      have : q ≠ r := fun e2 => e (by rw [e2])
      exact h.a hl q (by omega)
  · obtain ⟨b1, b2⟩ := h.b hP hl
    refine ⟨fun j hj => ?_, ?_⟩
    · rw [m4, set_getD _ _ _ _ (by omega)]
      split
      · rename_i e
        rw [e]
      · exact b1 j hj
    · rw [m5, b2, b1 _ hlt]
      simp

theorem QInv.last {last : Int} {B : Nat} (h : QInv k C N st r P B last) (hr : r + 1 = N) : QInv (k.step C) C N st 0 (P + 1) B last ∨ DInv (k.step C) C N st (P + 1) B last := by
  obtain ⟨m1, m3, m4, m6, m7⟩ := h.at'.last (C := C) h.ph hr
  have hsl := h.at'.slot
  have hlt := h.at'.slot_lt
  have hX := h.at'.X
  have h1 := h.c1; have h2 := h.c2; have h3 := h.c3; have hl := h.l
  have full : last ≠ P → ∀ j, j < N → (k.step C).X.getD j 0 = C.getD j 0 := by
    intro hne j hj
    rw [m4, set_getD _ _ _ _ (by omega)]
    split
    · rename_i e
      rw [e]
    · rename_i e
      obtain ⟨q, hq, rfl⟩ := slot_sur h.at'.s1 hj
      have : q ≠ r := fun e2 => e (by rw [e2, hsl])
      exact h.a hne q (by omega)
  by_cases hd : 1 ≤ P ∧ (k.turned || decide (C.getD k.slot 0 ≠ k.X.getD k.slot 0)) = false
  · rw [if_pos hd] at m7
    exact .inr ⟨m1, m7, by omega, by omega, fun hlt2 => full (by omega)⟩
  · rw [if_neg hd] at m7
    refine .inl ⟨m1, m7, fun _ q hq => by omega, fun _ hl2 => ⟨full (by omega), m6⟩, fun e => by omega, fun _ hc => ?_, ?_, by omega⟩
    · rcases hc with hc | hc
      · omega
      · exact h1 (by omega)
    · by_cases e : last = (P : Int)
      · have := h1 e; omega
      · by_cases e2 : P = 0 ∨ last = (P : Int) - 1
        · have := h2 e e2; omega
        · exfalso
          obtain ⟨b1, b2⟩ := h.b (by omega) (by omega)
          refine hd ⟨by omega, ?_⟩
          rw [b2, b1 _ hlt]
          simp

/-- It goes on, or is done; i steps were done. -/
def Snap (k : Sn) (C : List Int) (N st i B : Nat) (last : Int) : Prop :=
  (∃ P r, i = P * N + r ∧ QInv k C N st r P B last) ∨ (∃ P, i = P * N ∧ DInv k C N st P B last)

theorem Snap.step {last : Int} {B i : Nat} (h : Snap k C N st i B last) (hp : k.ph = 0) : Snap (k.step C) C N st (i + 1) B last := by
  rcases h with ⟨P, r, hi, h⟩ | ⟨P, hi, h⟩
  · rcases (by have := h.at'.r1; omega : r + 1 < N ∨ r + 1 = N) with hr | hr
    · exact .inl ⟨P, r + 1, by omega, h.mid hr⟩
    · rcases h.last hr with h1 | h1
      · exact .inl ⟨P + 1, 0, by rw [Nat.add_mul]; omega, h1⟩
      · exact .inr ⟨P + 1, by rw [Nat.add_mul]; omega, h1⟩
  · have := h.ph
    omega
theorem Snap.same (C : List Int) (k : Sn) : SnSame k (k.step C) := by
  unfold Sn.step
  split
  · split <;> exact ⟨rfl, rfl, rfl, rfl, rfl⟩
  · exact ⟨rfl, rfl, rfl, rfl, rfl⟩
end
end

section
open Go.RowKit
set_option linter.unusedVariables false

/-- Cells, a snap, and what else the call holds. -/
def SnapHold (W w : World) (p c : Nat) (v : Value) (C : List Int) (L : List Ev) (b g : Nat) (k : Sn) (R : List Thing) : Prop :=
  Hold W w (tMem W.heap.size p c v C L :: tSn W.heap.size b g k :: R)

section
variable {W w w' : World} {p c b g : Nat} {v v' : Value} {C C' : List Int} {L L' : List Ev} {k k' : Sn} {R : List Thing}
theorem SnapHold.mem (h : SnapHold W w p c v C L b g k R) : IsMem W.heap.size w p c v C L := Hold.has h 0 _ rfl
theorem SnapHold.sn (h : SnapHold W w p c v C L b g k R) : IsSn W.heap.size w b g k := Hold.has h 1 _ rfl
theorem SnapHold.later (h : SnapHold W w p c v C L b g k R) (e : Below w.heap.size w w') : SnapHold W w' p c v C L b g k R := Hold.later h e
theorem SnapHold.drew (h : SnapHold W w p c v C L b g k R) : SnapHold W w.drew p c v C L b g k R := Hold.drew h
theorem SnapHold.size (h : SnapHold W w p c v C L b g k R) : W.heap.size ≤ w.heap.size := Hold.size h
theorem SnapHold.below (h : SnapHold W w p c v C L b g k R) : Below W.heap.size W w := Hold.below h
theorem SnapHold.store (h : SnapHold W w p c v C L b g k R) (t : Touched W.heap.size w w' p c v v' C' L') : SnapHold W w' p c v' C' L' b g k R := Hold.mem h 0 rfl t
theorem SnapHold.does (h : SnapHold W w p c v C L b g k R) (d : Does (fun i => i = b ∨ i = g) W.heap.size w w' p c v v' C' L') (hk : IsSn W.heap.size w' b g k') : SnapHold W w' p c v' C' L' b g k' R :=
  Hold.does h 0 1 (by decide) rfl rfl d (tSn_ok _ _ _ _) hk (fun q hq => hq)
/-- A step. -/
theorem SnapHold.call {n : Int} (h : SnapHold W w p c v C L b g k R) (hk : k.Ok n C) (hL : L.length < 1000000000) :
    Calls Tryz.prog 107 #[pt b, pt p] w fun r w' => r = .returned (i64 (k.step C).ph) ∧ ∃ v', SnapHold W w' p c v' C (L ++ k.ev C) b g (k.step C) R :=
  (snstep_any W.heap.size w b g p c v C L k n hk h.sn h.mem (fun i hi => Hold.free h 0 1 (by decide) rfl rfl i hi) h.size hL).mono fun r w' ⟨hr, v', hd, hs⟩ => ⟨hr, v', h.does hd hs⟩
theorem SnapHold.begun {w1 : World} {n : Nat} (hB : Below W.heap.size W w) (hM : IsMem W.heap.size w' p c (.slice none 0 0) (List.replicate n 0) []) (e : Below w.heap.size w w') (hp : w.heap.size ≤ p) (hc : w.heap.size ≤ c)
    (e1 : Below w'.heap.size w' w1) (hk : IsSn W.heap.size w1 b g k) (hb : w'.heap.size ≤ b) (hg : w'.heap.size ≤ g) : SnapHold W w1 p c (.slice none 0 0) (List.replicate n 0) [] b g k [] :=
  have h0 : Hold W w' ([] ++ [tMem W.heap.size p c (.slice none 0 0) (List.replicate n 0) []]) := (Hold.nil hB).more e (tMem_ok _ _ _ _ _ _) hM (fun q hq => by
    rcases hq with rfl | rfl | hq
    · exact hp
    · exact hc
    · cases hq)
  Hold.more h0 e1 (tSn_ok _ _ _ _) hk (fun q hq => by
    rcases hq with rfl | rfl
    · exact hb
    · exact hg)
/-- Something new. -/
theorem SnapHold.more {A : Thing} (h : SnapHold W w p c v C L b g k R) (e : Below w.heap.size w w') (ok : A.Ok W.heap.size) (hP : A.P w') (hF : ∀ q, A.F q → w.heap.size ≤ q) : SnapHold W w' p c v C L b g k (R ++ [A]) :=
  Hold.more h e ok hP hF
end

theorem Sn.ev_le (k : Sn) (C : List Int) : (k.ev C).length ≤ 1 := by
  unfold Sn.ev
  split <;> simp

section
variable {k : Sn} {C : List Int} {N st i B : Nat} {last : Int}
theorem Snap.cases (h : Snap k C N st i B last) : (k.ph = 0 ∧ i < (B + 2) * N) ∨ (k.ph = 1 ∧ ∃ P, i = P * N ∧ k.passes = (P : Int) ∧ 2 ≤ P ∧ P ≤ B + 2 ∧ (last < (P : Int) - 1 → ∀ j, j < N → k.X.getD j 0 = C.getD j 0)) := by
  rcases h with ⟨P, r, hi, h⟩ | ⟨P, hi, h⟩
  · have h1 := Nat.mul_le_mul_right N h.c3
    have h2 := h.at'.r1
    refine .inl ⟨h.ph, ?_⟩
    rw [Nat.add_mul] at h1 ⊢
    omega
  · exact .inr ⟨h.ph, P, hi, h.at'.passes, h.p, h.b, h.x⟩
theorem Snap.X (h : Snap k C N st i B last) : k.X.length = N ∧ k.N = N := by
  rcases h with ⟨P, r, hi, h⟩ | ⟨P, hi, h⟩
  · exact ⟨h.at'.X, h.at'.hN⟩
  · exact ⟨h.at'.X, h.at'.hN⟩
theorem Snap.ok {t s n : Int} {k0 : Sn} (h : Snap k C N st i B last) (hs : SnSame k0 k) (ht : k0.t = t) (hs' : k0.s = s) (hl : Lay t s n) (hN : (N : Int) = n) (hlen : (C.length : Int) = 2 * n + 2 * t) (hi : i ≤ 1000000) : k.Ok n C := by
  have e1 : k.t = t := hs.1.trans ht
  have e2 : k.s = s := hs.2.1.trans hs'
  have hn := hl.n1
  have ht := hl.t1
  have hP : ∀ P r, i = P * N + r → P ≤ 1000000 := fun P r e => by
    have := Nat.mul_le_mul_left P (show 1 ≤ N by omega)
    omega
  rw [← e1, ← e2] at hl
  rw [← e1] at hlen
  rcases h with ⟨P, r, hi, h⟩ | ⟨P, hi, h⟩
  · exact h.at'.ok hl hN hlen (hP P r hi)
  · exact h.at'.ok hl hN hlen (hP P 0 hi)
theorem Snap.start (t s so d who : Int) (C : List Int) (N st B : Nat) (hs : st < N) : Snap (sn0 t s so d who st N) C N st 0 B (-1) :=
  .inl ⟨0, 0, by omega, QInv.start t s so d who C N st B hs⟩
theorem Snap.store (h : Snap k C N st i B last) (hp : k.ph = 0) (C' : List Int) : Snap k C' N st i (if last = ((i / N : Nat) : Int) then B else B + 2) ((i / N : Nat) : Int) := by
  rcases h with ⟨P, r, hi, h⟩ | ⟨P, hi, h⟩
  · have e : i / N = P := by
      rw [hi, Nat.add_comm, Nat.add_mul_div_right _ _ (by have := h.at'.r1; omega), Nat.div_eq_of_lt h.at'.r1, Nat.zero_add]
    rw [e]
    exact .inl ⟨P, r, hi, h.store C'⟩
  · have := h.ph
    omega
end

theorem lay22 : Lay 2 2 4 := ⟨rfl, by omega, by omega, by omega, by omega, by omega, by omega, by omega⟩

/-- Turns as they came in. -/
theorem rows_turn7 {w : World} {a0 : Option Addr} {len cap : Nat} (h : IsRows w [.inl .i64, .inl .i64, .inl .u64] a0 len cap) (hl : 0 < len) :
    ∃ b off, ∃ X : Nat → Int × Int × Int, a0 = some ⟨b, off, none⟩ ∧ len ≤ cap ∧ b < w.heap.size ∧ ∀ i, i < len → w.cell? ⟨b, off + i * 3, none⟩ = some (i64 (X i).1) ∧ w.cell? ⟨b, off + i * 3 + 1, none⟩ = some (i64 (X i).2.1) ∧ w.cell? ⟨b, off + i * 3 + 2, none⟩ = some (u64 (X i).2.2) ∧ 0 ≤ (X i).2.2 ∧ (X i).2.2 ≤ 18446744073709551615 := by
  obtain ⟨h1, h2, h3, h4, h5⟩ := h
  obtain ⟨b, off, rfl⟩ := h4 hl
  have hx : ∀ i, ∃ x : Int × Int × Int, i < len → w.cell? ⟨b, off + i * 3, none⟩ = some (i64 x.1) ∧ w.cell? ⟨b, off + i * 3 + 1, none⟩ = some (i64 x.2.1) ∧ w.cell? ⟨b, off + i * 3 + 2, none⟩ = some (u64 x.2.2) ∧ 0 ≤ x.2.2 ∧ x.2.2 ≤ 18446744073709551615 := by
    intro i
    by_cases hi : i < len
    · obtain ⟨cs, hf, hc⟩ := h5 b off rfl i hi
      obtain ⟨c0, l0, rfl, r0, f0⟩ := fit_cons hf
      obtain ⟨c1, l1, rfl, r1, f1⟩ := fit_cons f0
      obtain ⟨c2, l2, rfl, r2, f2⟩ := fit_cons f1
      obtain ⟨x0, rfl, g0⟩ := r0
      obtain ⟨x1, rfl, g1⟩ := r1
      obtain ⟨x2, rfl, g2⟩ := r2
      exact ⟨⟨x0, x1, x2⟩, fun _ => ⟨hc 0 _ rfl, hc 1 _ rfl, hc 2 _ rfl, (bounds_u64 g2).1, (bounds_u64 g2).2⟩⟩
    · exact ⟨⟨0, 0, 0⟩, fun h => absurd h hi⟩
  obtain ⟨X, hX⟩ := Classical.axiomOfChoice hx
  exact ⟨b, off, X, rfl, h1, World.block_lt_of_cell? w _ (hX 0 hl).1, fun i hi => hX i hi⟩

theorem rows_turn7' {w : World} {a0 : Option Addr} {len cap : Nat} (h : IsRows w [.inl .i64, .inl .i64, .inl .u64] a0 len cap) :
    ∃ b off, ∃ X : Nat → Int × Int × Int, ∀ i, i < len → a0 = some ⟨b, off, none⟩ ∧ len ≤ cap ∧ b < w.heap.size ∧ w.cell? ⟨b, off + i * 3, none⟩ = some (i64 (X i).1) ∧ w.cell? ⟨b, off + i * 3 + 1, none⟩ = some (i64 (X i).2.1) ∧ w.cell? ⟨b, off + i * 3 + 2, none⟩ = some (u64 (X i).2.2) ∧ 0 ≤ (X i).2.2 ∧ (X i).2.2 ≤ 18446744073709551615 := by
  rcases Nat.eq_zero_or_pos len with h0 | h0
  · exact ⟨0, 0, fun _ => (0, 0, 0), fun i hi => by omega⟩
  · obtain ⟨b, off, X, h1, h2, h3, h4⟩ := rows_turn7 h h0
    exact ⟨b, off, X, fun i hi => ⟨h1, h2, h3, h4 i hi⟩⟩

/-- The layout's box and a turn's. -/
def AtCT7 (cb tb : Nat) (t s sl x : Int) (w : World) : Prop := AtC w cb t s 0 0 ∧ w.cell? ⟨tb, 1, none⟩ = some (i64 sl) ∧ w.cell? ⟨tb, 2, none⟩ = some (u64 x)
theorem AtCT7.keep {cb tb : Nat} {t s sl x : Int} {w w' : World} {T : Nat → Prop} (h : AtCT7 cb tb t s sl x w) (k : Keep T w w') (hc : ¬ T cb) (ht : ¬ T tb) : AtCT7 cb tb t s sl x w' :=
  ⟨h.1.keep k hc, k.cell h.2.1 ht, k.cell h.2.2 ht⟩
theorem AtCT7.later {cb tb : Nat} {t s sl x : Int} {w w' : World} (h : AtCT7 cb tb t s sl x w) (k : Below w.heap.size w w') : AtCT7 cb tb t s sl x w' :=
  h.keep (Keep.of_below (T := fun _ => False) k) (fun h => h) (fun h => h)
theorem AtCT7.made {cb : Nat} {t s : Int} {w : World} (h : AtC w cb t s 0 0) (th sl x : Int) (T : TypeId) : AtCT7 cb w.heap.size t s sl x (w.alloc (.cells #[i64 th, i64 sl, u64 x] T)) :=
  ⟨h.later (below_new (Below.refl _ _) _) (World.block_lt_of_cell? w _ h.c0), World.cell?_alloc_new w _ _ 1, World.cell?_alloc_new w _ _ 2⟩

/-- How many of these come ahead of i. -/
def cnt (f : Nat → Int) (i : Int) : Nat → Nat
  | 0 => 0
  | q + 1 => cnt f i q + if 0 ≤ f q ∧ f q < i then 1 else 0
theorem cnt_le (f : Nat → Int) (i : Int) : ∀ q, cnt f i q ≤ q
  | 0 => Nat.le_refl _
  | q + 1 => by
    have := cnt_le f i q
    unfold cnt
    split <;> omega
theorem cnt_mono (f : Nat → Int) (i : Int) : ∀ q, cnt f i q ≤ cnt f (i + 1) q
  | 0 => Nat.le_refl _
  | q + 1 => by
    have := cnt_mono f i q
    unfold cnt
    split
    · rw [if_pos (by omega)]
      omega
    · split <;> omega
theorem cnt_one (f : Nat → Int) (i : Int) (h0 : 0 ≤ i) (j : Nat) (hj : f j = i) : ∀ q, j < q → cnt f i q + 1 ≤ cnt f (i + 1) q
  | 0, h => by omega
  | q + 1, h => by
    rcases (by omega : j < q ∨ j = q) with h1 | rfl
    · have := cnt_one f i h0 j hj q h1
      unfold cnt
      split
      · rw [if_pos (by omega)]
        omega
      · split <;> omega
    · have := cnt_mono f i j
      unfold cnt
      rw [if_neg (by omega), if_pos (by omega)]
      omega
end

end Go.Proofs.YtpfjommkjkbonaaGreat
