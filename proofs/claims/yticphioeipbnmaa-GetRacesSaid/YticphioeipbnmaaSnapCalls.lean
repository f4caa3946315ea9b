/-
  Contracts of package snap; what a step of it does is told as a function on plain data. No condition but that numbers fit their kinds.
-/
import Derived.Test.YticphioeipbnmaaClaimCalls
import Derived.Laws.CopyOwn
namespace Go.Proofs.Yticphioeipbnmaa
open Go.RowKit
set_option linter.unusedVariables false

theorem wp_make_full {P : Program} {o : Oper} {a : Act} {w : World} {K : Act → World → Prop} {Q : Exit → Act → World → Prop} (l c : Operand) (t : TypeId) (hop : o.op = Op.makeSlice t l c)
    (base : Nat) (e : TypeId) (i : TypeInfo) (z : Value) (size : Nat) (h1 : P.underlying t = some (.slice e)) (h2 : P.info? e = some i) (h3 : i.zero = some z) (h4 : i.size = size)
    (kl kc : IntKind) (n : Nat) (hl : a.eval l = .int kl (n : Int)) (hc : a.eval c = .int kc (n : Int)) (b2 : i.bytes * n ≤ 281474976710656) (b3 : n ≤ maxLen) (b4 : base ≤ w.heap.size)
    (hK : ∀ w', w'.ownsRow base e size (.slice (some ⟨w.heap.size, 0, none⟩) n n) n (madeCells z.cells (n * size)).toList → w.grownBy w' none → K (a.put o.dst (.slice (some ⟨w.heap.size, 0, none⟩) n n)) w') :
    Oper.wp P o a w K Q := by
  obtain ⟨w', hrun, r1, r2⟩ := run_make_full (P := P) w base t e i z size h1 h2 h3 h4 kl kc n b2 b3 b4
  unfold Oper.wp
  simp [execOp, hop, hl, hc, hrun, Result.andThen]
  exact hK w' r1 r2

theorem step_make_full {P : Program} {ops : Array Oper} {o : Oper} {a : Act} {w : World} {K : Act → World → Prop} {Q : Exit → Act → World → Prop} {E : Prop} (hg : o.guard = none) (l c : Operand) (t : TypeId) (hop : o.op = Op.makeSlice t l c)
    (base : Nat) (e : TypeId) (i : TypeInfo) (z : Value) (size : Nat) (h1 : P.underlying t = some (.slice e)) (h2 : P.info? e = some i) (h3 : i.zero = some z) (h4 : i.size = size)
    (kl kc : IntKind) (n : Nat) (hl : a.eval l = .int kl (n : Int)) (hc : a.eval c = .int kc (n : Int)) (b2 : i.bytes * n ≤ 281474976710656) (b3 : n ≤ maxLen) (b4 : base ≤ w.heap.size)
    (hK : ∀ w', w'.ownsRow base e size (.slice (some ⟨w.heap.size, 0, none⟩) n n) n (madeCells z.cells (n * size)).toList → w.grownBy w' none → K (a.put o.dst (.slice (some ⟨w.heap.size, 0, none⟩) n n)) w') :
    if Region.wanted o (yielded ops a.tmps) = true then Oper.wp P o a w K Q else E := by
  have hw : Region.wanted o (yielded ops a.tmps) = true := by simp [Region.wanted, hg]
  rw [if_pos hw]
  exact wp_make_full l c t hop base e i z size h1 h2 h3 h4 kl kc n hl hc b2 b3 b4 hK

/-- A snap under way: the layout, whose it is, where it begins, how many words this pass has read; the words read last; whether this pass read one that had turned; how many passes; how far it is. -/
structure Sn where
  t : Int
  s : Int
  so : Int
  d : Int
  who : Int
  start : Int
  read : Int
  N : Nat
  turned : Bool
  passes : Int
  ph : Int
  X : List Int

abbrev Sn.list (k : Sn) (g : Nat) : List Value := [i64 k.t, i64 k.s, i64 k.so, i64 k.d, i64 k.who, i64 k.start, i64 k.read, .slice (some ⟨g, 0, none⟩) k.N k.N, .bool k.turned, i64 k.passes, i64 k.ph]

structure AtSn (w : World) (b g : Nat) (k : Sn) : Prop where
  c0 : w.cell? ⟨b, 0, none⟩ = some (i64 k.t)
  c1 : w.cell? ⟨b, 1, none⟩ = some (i64 k.s)
  c2 : w.cell? ⟨b, 2, none⟩ = some (i64 k.so)
  c3 : w.cell? ⟨b, 3, none⟩ = some (i64 k.d)
  c4 : w.cell? ⟨b, 4, none⟩ = some (i64 k.who)
  c5 : w.cell? ⟨b, 5, none⟩ = some (i64 k.start)
  c6 : w.cell? ⟨b, 6, none⟩ = some (i64 k.read)
  c7 : w.cell? ⟨b, 7, none⟩ = some (.slice (some ⟨g, 0, none⟩) k.N k.N)
  c8 : w.cell? ⟨b, 8, none⟩ = some (.bool k.turned)
  c9 : w.cell? ⟨b, 9, none⟩ = some (i64 k.passes)
  c10 : w.cell? ⟨b, 10, none⟩ = some (i64 k.ph)

/-- It lies in block b, its words in block g. -/
structure IsSn (base : Nat) (w : World) (b g : Nat) (k : Sn) : Prop where
  obj : IsObj w b (k.list g)
  row : w.ownsRow base 39 1 (.slice (some ⟨g, 0, none⟩) k.N k.N) k.N (k.X.map u64)
  bb : base ≤ b
  ne : b ≠ g

section
variable {base : Nat} {w w' : World} {b g : Nat} {k : Sn}
theorem IsSn.at (h : IsSn base w b g k) : AtSn w b g k :=
  ⟨h.obj.at' 0 _ rfl, h.obj.at' 1 _ rfl, h.obj.at' 2 _ rfl, h.obj.at' 3 _ rfl, h.obj.at' 4 _ rfl, h.obj.at' 5 _ rfl, h.obj.at' 6 _ rfl, h.obj.at' 7 _ rfl, h.obj.at' 8 _ rfl, h.obj.at' 9 _ rfl, h.obj.at' 10 _ rfl⟩
theorem IsSn.head (h : IsSn base w b g k) : AtHead w b k.t k.s k.so k.d k.who k.start := h.obj.head
theorem IsSn.len (h : IsSn base w b g k) : k.X.length = k.N := by
  have := h.row.1
  rw [List.length_map] at this
  omega
theorem IsSn.gb (h : IsSn base w b g k) : base ≤ g ∧ g < w.heap.size := h.row.lt g rfl
theorem IsSn.keep {T : Nat → Prop} (h : IsSn base w b g k) (e : Keep T w w') (hb : ¬ T b) (hg : ¬ T g) : IsSn base w' b g k :=
  ⟨h.obj.keep e hb, e.row h.row (fun i hi => by cases hi; exact hg), h.bb, h.ne⟩
theorem IsSn.later (h : IsSn base w b g k) (e : Below w.heap.size w w') : IsSn base w' b g k := h.keep (T := fun _ => False) (Keep.of_below e) (fun h => h) (fun h => h)
theorem IsSn.drew (h : IsSn base w b g k) : IsSn base w.drew b g k := h.later (Below.refl _ _).drew
theorem IsSn.cell (h : IsSn base w b g k) {j : Nat} {y : Int} (hy : k.X[j]? = some y) : w.cell? ⟨g, j, none⟩ = some (u64 y) := by
  have hj := (List.getElem?_eq_some_iff.1 hy).1
  rw [h.row.cellAt j (by have := h.len; omega), List.getElem?_map, hy]
  rfl
theorem IsSn.set (h : IsSn base w b g k) (i : Nat) (u : Value) {k' : Sn} (hk : (k.list g).set i u = k'.list g) (hN : k'.N = k.N) (hX : k'.X = k.X) : IsSn base (w.setCell ⟨b, i, none⟩ u) b g k' :=
  ⟨hk ▸ h.obj.set i u, by rw [hN, hX]; exact setCell_row h.row ⟨b, i, none⟩ (by simp [Value.ownBlock]; exact fun e => h.ne e.symm) u, h.bb, h.ne⟩
theorem IsSn.word (h : IsSn base w b g k) (j : Nat) (x : Int) : IsSn base (w.setCell ⟨g, j, none⟩ (u64 x)) b g { k with X := k.X.set j x } :=
  ⟨h.obj.other j (u64 x) (fun e => h.ne e.symm), by
    have h2 := h.row.stored j (u64 x)
    show World.ownsRow _ _ _ _ _ k.N ((k.X.set j x).map u64)
    rw [List.map_set]
    exact h2.1, h.bb, h.ne⟩
end

def tSn (base b g : Nat) (k : Sn) : Thing := ⟨fun w => IsSn base w b g k, fun i => i = b ∨ i = g⟩
theorem tSn_ok (base b g : Nat) (k : Sn) : (tSn base b g k).Ok base :=
  ⟨fun _ _ _ h e hn => IsSn.keep h e (hn b (.inl rfl)) (hn g (.inr rfl)), fun w i (h : IsSn base w b g k) hi => by
    rcases hi with rfl | rfl
    · exact ⟨h.bb, h.obj.lt⟩
    · exact h.gb⟩

/-- A pass has ended. -/
def Sn.fin (k : Sn) : Sn := { k with passes := k.passes + 1, ph := if 1 < k.passes + 1 ∧ k.turned = false then 1 else k.ph, read := 0, turned := false }
/-- The place that is read next. -/
def Sn.slot (k : Sn) : Nat := ((k.start + k.read) % (k.N : Int)).toNat
def Sn.put (k : Sn) (x : Int) : Sn := { k with X := k.X.set k.slot x, turned := k.turned || decide (x ≠ k.X.getD k.slot 0), read := k.read + 1 }
/-- A step. -/
def Sn.step (k : Sn) (C : List Int) : Sn := if k.ph = 0 then if k.read + 1 = (k.N : Int) then (k.put (C.getD k.slot 0)).fin else k.put (C.getD k.slot 0) else k
def Sn.ev (k : Sn) (C : List Int) : List Ev := if k.ph = 0 then [⟨k.who, 0, (k.slot : Nat), C.getD k.slot 0, C.getD k.slot 0, true⟩] else []

/-- What may be in it. -/
structure Sn.Ok (k : Sn) (n : Int) (C : List Int) : Prop where
  lay : Lay k.t k.s n
  N : (k.N : Int) = n
  len : (C.length : Int) = 2 * n + 2 * k.t
  X : k.X.length = k.N
  s0 : 0 ≤ k.start
  s1 : k.start < n
  r0 : 0 ≤ k.read
  r1 : k.read < n
  p0 : 0 ≤ k.passes
  p1 : k.passes ≤ 1000000

section
variable (base : Nat) (w : World) (b g : Nat) (k : Sn)

set_option maxHeartbeats 1000000 in
theorem snwords_none (hp : k.ph ≠ 1) (hT : IsSn base w b g k) : Calls Try.prog 20 #[pt b] w fun r w' => r = .returned (.slice none 0 0) ∧ w = w' := by
  have q : (k.ph != 1) = true := by simp [hp]
  obtain ⟨c0, c1, c2, c3, c4, c5, c6, c7, c8, c9, c10⟩ := hT.at
  clear hp hT
  go_enter Try.func20, Try.ntmps20
  go_wp2
  go_ret
  exact ⟨rfl, rfl⟩

/-- A new list of words. -/
def WordsPost (X : List Int) (N : Nat) (w : World) (r : Ending) (w' : World) : Prop :=
  ∃ h, r = .returned (.slice (some ⟨h, 0, none⟩) N N) ∧ w'.ownsRow w.heap.size 39 1 (.slice (some ⟨h, 0, none⟩) N N) N (X.map u64) ∧ Below w.heap.size w w'

theorem words_made (hT : IsSn base w b g k) (w1 : World) (hown : w1.ownsRow w.heap.size 39 1 (.slice (some ⟨w.heap.size, 0, none⟩) k.N k.N) k.N (madeCells (Value.int .u64 0).cells (k.N * 1)).toList) (hg : w.grownBy w1 none) :
    Hid (w1.heap[w.heap.size]? = some (.cells (List.replicate k.N (u64 0)).toArray 39 (0, 0))) ∧ Hid (Below w.heap.size w w1) ∧ Hid (IsSn base w1 b g k) ∧ Hid (∀ (j : Nat) (v : Value), (k.X.map u64)[j]? = some v → w1.cell? ((⟨g, 0, none⟩ : Addr).add j) = some v) := by
  have hb1 : Below w.heap.size w w1 := (Below.refl _ _).grown hg (Nat.le_refl _) (fun k hk => by cases hk)
  have hT1 := hT.later hb1
  refine ⟨?_, hb1, hT1, ?_⟩
  · show _ = _
    rw [toList_made] at hown
    rcases hown.2 with ⟨h0, _⟩ | ⟨g', cap, cur, hv, _, hh, _, _, hcs, hct⟩
    · cases h0
    · cases hv
      rw [hh]
      have h2 : cur.toList = List.replicate k.N (u64 0) := by
        rw [List.take_of_length_le (by rw [Array.length_toList, hcs]; exact Nat.le_refl _)] at hct
        rw [hct, List.map_replicate]
      rw [← h2, Array.toArray_toList]
  · intro j v hj
    rw [addr_add', Nat.zero_add]
    rw [List.getElem?_map] at hj
    obtain ⟨x, hx, rfl⟩ := Option.map_eq_some_iff.1 hj
    exact hT1.cell hx

set_option maxHeartbeats 2000000 in
theorem snwords_any (hp : k.ph = 1) (hN : k.N ≤ 4096) (hT : IsSn base w b g k) : Calls Try.prog 20 #[pt b] w (WordsPost k.X k.N w) := by
  have q : (k.ph != 1) = false := by simp [hp]
  obtain ⟨c0, c1, c2, c3, c4, c5, c6, c7, c8, c9, c10⟩ := hT.at
  obtain ⟨i, hi, hz0, hz1, hz2⟩ := elem_u64.info
  have HM := Lib.hid (words_made base w b g k hT)
  have HL := Lib.hid hT.len
  clear hp hT
  go_enter Try.func20, Try.ntmps20
  go_wp2_with (first
    | (refine wpList_make_full _ rfl _ _ 56 rfl w.heap.size 39 i (.int .u64 0) 1 elem_u64.und hi hz0 hz1 .i64 .i64 _ _ k.N rfl rfl rfl rfl (by rw [hz2]; omega) (by unfold maxLen; omega) (Nat.le_refl _) ?_; intro w1 hown hgrow; obtain ⟨HH, HB, HT1, HSRC⟩ := HM.out w1 hown hgrow; clear hown hgrow c0 c1 c2 c3 c4 c5 c6 c7 c8 c9 c10; obtain ⟨c0, c1, c2, c3, c4, c5, c6, c7, c8, c9, c10⟩ := HT1.out.at)
    | (refine wpList_copy_splice rfl _ _ 56 56 rfl 39 elem_u64.und (by kernel_rfl) _ _ _ _ _ _ rfl rfl w.heap.size 0 (List.replicate k.N (u64 0)) 39 HH.out (k.X.map u64) (by rw [List.length_map, HL.out]; exact (Nat.min_self _).symm) (fun _ => ⟨rfl, _, rfl, HSRC.out⟩) (by rw [List.length_map, List.length_replicate, HL.out]; omega) (fun v hv => by obtain ⟨x, _, rfl⟩ := List.mem_map.1 hv; rfl) w.heap.size w HB.out (Nat.le_refl _) ?_; intro w2 hg2 hb2))
  go_ret
  refine ⟨_, rfl, ?_, hb2⟩
  have hs : splice (List.replicate k.N (u64 0)) 0 (k.X.map u64) = k.X.map u64 := by
    unfold splice
    rw [List.take_zero, List.nil_append, List.drop_of_length_le (by rw [List.length_map, List.length_replicate, HL.out]; omega), List.append_nil]
  have h2 := hg2.out
  rw [hs] at h2
  exact ⟨by rw [List.length_map, HL.out]; omega, .inr ⟨w.heap.size, k.N, _, rfl, Nat.le_refl _, h2, Nat.le_refl _, by unfold maxLen; omega, by simp [HL.out], by rw [Nat.mul_one]; exact List.take_of_length_le (by simp [HL.out])⟩⟩

/-- A snap that is begun. -/
def sn0 (t s so d who start : Int) (N : Nat) : Sn := ⟨t, s, so, d, who, start, 0, N, false, 0, 0, List.replicate N 0⟩

theorem start_mod (start : Int) (n : Nat) (h1 : 1 ≤ n) (h2 : n ≤ 4096) : IntKind.u64.wrap (n : Int) = n ∧ wrap64 ((IntKind.u64.wrap start).tmod n) = IntKind.u64.wrap start % n ∧ IntKind.i64.wrap ((IntKind.u64.wrap start).tmod n) = IntKind.u64.wrap start % n ∧ 0 ≤ IntKind.u64.wrap start % n ∧ IntKind.u64.wrap start % n < n := by
  have h0 : 0 ≤ IntKind.u64.wrap start := by rw [IntKind.wrap_u64]; omega
  have h3 := Int.emod_nonneg (IntKind.u64.wrap start) (show (n : Int) ≠ 0 by omega)
  have h4 := Int.emod_lt_of_pos (IntKind.u64.wrap start) (show (0 : Int) < n by omega)
  rw [Int.tmod_eq_emod_of_nonneg h0]
  exact ⟨by rw [IntKind.wrap_u64]; omega, by unfold wrap64; omega, IntWalk.i64_in _ (by omega), h3, h4⟩

set_option maxRecDepth 100000 in
set_option maxHeartbeats 2000000 in
theorem snnew_any (t s so d who start n : Int) (N : Nat) (hl : Lay t s n) (hN : (N : Int) = n) (hb : base ≤ w.heap.size) :
    Calls Try.prog 12 #[cf t s so d, i64 who, i64 start] w fun r w' => ∃ b g, r = .returned (pt b) ∧ IsSn base w' b g (sn0 t s so d who (IntKind.u64.wrap start % N) N) ∧ Below w.heap.size w w' ∧ w.heap.size ≤ b ∧ w.heap.size ≤ g := by
  have hn1 := hl.n1; have hn2 := hl.n2; have ht1 := hl.t1
  obtain ⟨m1, m2, m5, m3, m4⟩ := start_mod start N (by omega) (by omega)
  have hn0 : ¬ N = 0 := by omega
  obtain ⟨i, hi, hz0, hz1, hz2⟩ := elem_u64.info
  have hwn : IntKind.u64.wrap n = N := by rw [← hN]; exact m1
  subst hN
  clear m1
  go_enter Try.func12, Try.ntmps12
  go_wp2_with fail
  refine (call_any _ _ _ _ N _ hl).mono ?_
  rintro r w1 ⟨rfl, hb1⟩
  have hbox : AtC w1 w.heap.size t s so d := (AtC.made w t s so d).later hb1 (by simp)
  obtain ⟨q0, q1, q2, q3⟩ := hbox
  have hb01 := Lib.hid (below_step (below_new (Below.refl _ _) _) hb1)
  clear hb1
  go_wp2_with fail
  refine wp_region_seq ((0, true) :: (1, true) :: (2, true) :: (3, true) :: (4, true) :: (5, true) :: (6, true) :: (7, true) :: (8, true) :: (9, false) :: (10, true) :: (11, false) :: (12, true) :: []) (by kernel_rfl) (by kernel_rfl) (by kernel_rfl) (by decide) (fun _ _ _ _ _ h => h) (fun hHeld => ?_)
  repeat (first
    | (refine seq_take (v := ?_) rfl ?_ ?_ ?_; rotate_left 1; rfl; (focus (intro wS hSw; have hk := below_rule hSw; go_simp; first | done | with_reducible rfl)); (try simp only [Act.put, List.setIfInBounds_toArray, List.set_cons_zero, List.set_cons_succ]))
    | (refine seq_skip rfl ?_ ?_; rfl; (try simp only [Act.put, List.setIfInBounds_toArray, List.set_cons_zero, List.set_cons_succ])))
  refine seq_run rfl (fun K hK => ?_)
  refine step_make_full rfl _ _ 56 rfl base 39 i (.int .u64 0) 1 elem_u64.und hi hz0 hz1 .i64 .i64 N rfl rfl (by rw [hz2]; omega) (by unfold maxLen; omega) (by have := hb01.out.size; exact Nat.le_trans hb this) ?_
  intro w2 hown hg
  have hs1 := (hown.lt _ rfl).2
  have HG : Hid (Below w1.heap.size w1 w2) := ((Below.refl _ _).drew).grown hg (Nat.le_refl _) (fun k hk => by cases hk)
  have HO := Lib.hid hown
  clear hown hg
  refine hK.out _ _ HG.out (fun _ => ?_)
  (try simp only [Act.put, List.setIfInBounds_toArray, List.set_cons_zero, List.set_cons_succ])
  clear hK K hHeld
  have hHeld := HG.out
  repeat (first
    | (refine seq_take (v := ?_) rfl ?_ ?_ ?_; rotate_left 1; rfl; (focus (intro wS hSw; have hk := below_rule hSw; go_simp; first | done | with_reducible rfl)); (try simp only [Act.put, List.setIfInBounds_toArray, List.set_cons_zero, List.set_cons_succ]))
    | (refine seq_skip rfl ?_ ?_; rfl; (try simp only [Act.put, List.setIfInBounds_toArray, List.set_cons_zero, List.set_cons_succ])))
  refine seq_run rfl (fun K hK => ?_); go_simp; (try skip); (try go_wp2_with fail); refine hK.out _ _ ?_ ?_; (focus (first | exact below_step hHeld hb' | exact below_new hHeld _ | exact hHeld)); (try clear hb'); clear hHeld hK K; intro hHeld; (try simp only [Act.put, List.setIfInBounds_toArray, List.set_cons_zero, List.set_cons_succ])
  repeat (first
    | (refine seq_take (v := ?_) rfl ?_ ?_ ?_; rotate_left 1; rfl; (focus (intro wS hSw; have hk := below_rule hSw; go_simp; first | done | with_reducible rfl)); (try simp only [Act.put, List.setIfInBounds_toArray, List.set_cons_zero, List.set_cons_succ]))
    | (refine seq_skip rfl ?_ ?_; rfl; (try simp only [Act.put, List.setIfInBounds_toArray, List.set_cons_zero, List.set_cons_succ])))
  first | refine seq_done ?_ | skip
  go_wp2
  go_ret
  have ho := HO.out
  rw [toList_made] at ho
  have hsz := hb01.out.size
  have hd : w1.drew.heap.size = w1.heap.size := rfl
  exact ⟨w2.heap.size, w1.heap.size, rfl, ⟨IsObj.made w2 ((sn0 t s so d who (IntKind.u64.wrap start % N) N).list w1.heap.size) 83, ho.alloc _, by omega, by omega⟩, below_step hb01.out hHeld, by omega, by omega⟩
end

end Go.Proofs.Yticphioeipbnmaa
