/-
  CodeReads answers true for all bytes, and leaves all memory that was there as it was. No condition.
-/
import Derived.Test.YtpfjommkjkbonaaCodeHead
import Derived.Test.YtpfjommkjkbonaaFlat
namespace Go.Proofs.Ytpfjommkjkbonaa
open Go.RowKit
set_option linter.unusedVariables false

theorem rows_bytes {w : World} {A : Option Addr} {len cap : Nat} (h : IsRows w [.inl .u8] A len cap) : ∃ l : List Int, l.length = len ∧ len ≤ cap ∧ Row8 w A l := by
  obtain ⟨h1, h2, h3, h4, h5⟩ := h
  rcases Nat.eq_zero_or_pos len with h0 | hl
  · subst h0
    exact ⟨[], rfl, h1, IsAt.nil _ _, fun b hb => by cases hb⟩
  · obtain ⟨b, off, rfl⟩ := h4 hl
    have hx : ∀ i, ∃ n : Int, i < len → w.cell? ⟨b, off + i, none⟩ = some (u8 n) ∧ 0 ≤ n ∧ n ≤ 255 := fun i => by
      by_cases hi : i < len
      · obtain ⟨cs, hf, hc⟩ := h5 b off rfl i hi
        obtain ⟨c0, l0, rfl, r0, f0⟩ := fit_cons hf
        obtain ⟨n, rfl, g⟩ := r0
        refine ⟨n, fun _ => ⟨?_, bounds_u8 g⟩⟩
        have := hc 0 _ rfl
        simp only [List.length_cons, List.length_nil, Nat.zero_add, Nat.mul_one, Nat.add_zero] at this
        exact this
      · exact ⟨0, fun h => absurd h hi⟩
    obtain ⟨X, hX⟩ := Classical.axiomOfChoice hx
    have hat : ∀ j, j < len → ((List.range len).map X)[j]? = some (X j) := fun j hj => by
      rw [List.getElem?_map, List.getElem?_range hj]
      rfl
    refine ⟨(List.range len).map X, by simp, h1, fun _ => ⟨b, off, rfl, World.block_lt_of_cell? w _ (hX 0 hl).1, fun j u hj => ?_⟩, fun n hn => ?_⟩
    · have hjl : j < len := by
        have := (List.getElem?_eq_some_iff.1 hj).1
        simpa using this
      rw [List.getElem?_map, hat j hjl] at hj
      cases hj
      exact (hX j hjl).1
    · obtain ⟨i, hi, rfl⟩ := List.mem_map.1 hn
      exact (hX i (List.mem_range.1 hi)).2

theorem DecIs.yes {l : List Int} {ms : List CM} {n e : Int} (h : DecIs l ms n e) (he : e = 0) : (∀ m ∈ ms, m.Good) ∧ ms.length ≤ 65536 ∧ l = encs ms := by
  cases h with
  | ok _ h1 h2 h3 => exact ⟨h1, h2, h3⟩
  | form _ _ _ _ _ _ _ => exact absurd he (by decide)
  | many _ _ _ _ _ _ _ => exact absurd he (by decide)
/-- What Decode answers of moves that are right. -/
theorem DecPost.yes {w' : World} {base : Nat} {l : List Int} {v : Value} {n e t s so d : Int} {ms : List CM} (h : DecPost w' base l v n e) (hl : l = t :: s :: so :: d :: encs ms) (hr : rightC t s so d = true) (hg : ∀ m ∈ ms, m.Good) (hn : ms.length ≤ 65536) :
    e = 0 ∧ n = (l.length : Int) ∧ ∃ A cp, v = scV t s so d (.slice A ms.length cp) ∧ w'.ownsRow base 40 7 (.slice A ms.length cp) ms.length (flatM ms) := by
  cases h with
  | short h =>
    rw [hl] at h
    simp at h
    omega
  | conf t' s' so' d' r' h hr' =>
    rw [hl] at h
    simp only [List.cons.injEq] at h
    obtain ⟨rfl, rfl, rfl, rfl, _⟩ := h
    rw [hr] at hr'
    cases hr'
  | bad t' s' so' d' r' n' e' h hr' hd he =>
    rw [hl] at h
    simp only [List.cons.injEq] at h
    obtain ⟨rfl, rfl, rfl, rfl, rfl⟩ := h
    exact absurd (hd.of hg hn).2.2 he
  | ok t' s' so' d' r' ms' A cp h hr' hd ho =>
    rw [hl] at h
    simp only [List.cons.injEq] at h
    obtain ⟨rfl, rfl, rfl, rfl, rfl⟩ := h
    obtain ⟨rfl, _⟩ := hd.of hg hn
    exact ⟨rfl, rfl, A, cp, rfl, ho⟩

set_option maxRecDepth 100000 in
set_option maxHeartbeats 8000000 in
theorem walk_CodeReads (a0 : Option Addr) (len0 cap0 : Nat) (w : World) (w0 : IsRows w [.inl .u8] a0 len0 cap0) :
    Calls Try.prog 4 #[.slice a0 len0 cap0] w fun e w' => e = .returned (.bool true) ∧ Below w.heap.size w w' := by
  obtain ⟨l, rfl, hc, hl⟩ := rows_bytes w0
  have HR := Lib.hid hl
  clear w0 hl
  rcases Nat.lt_or_ge 300 l.length with hbig | hs
  · have hbig' : (300 : Int) < (l.length : Int) := by omega
    go_enter Try.func4, Try.ntmps4
    go_wp2_with fail
    refine (head18_any _).mono ?_
    rintro e w1 ⟨rfl, hb1⟩
    go_wp2_with fail
    go_ret
    exact ⟨rfl, hb1⟩
  have hs' : ¬ (300 : Int) < (l.length : Int) := by omega
  go_enter Try.func4, Try.ntmps4
  go_wp2_with fail
  refine (head18_any _).mono ?_
  rintro e w1 ⟨rfl, hb1⟩
  have HB1 := Lib.hid hb1
  have HR1 := Lib.hid (HR.out.later hb1)
  clear hb1 HR
  go_wp2_with fail
  refine (decode_any a0 l cap0 _ HR1.out.at' HR1.out.byt hc (by omega)).mono ?_
  rintro r w2 ⟨v, n, e, rfl, hb2, hD⟩
  have HB2 := Lib.hid (below_step HB1.out hb2)
  have HR2 := Lib.hid (HR1.out.later hb2)
  have HS := Lib.hid hs
  have HC := Lib.hid hc
  clear hb2 HB1 HR1 hs hc
  cases hD with
  | short h =>
    have h4' : (l.length : Int) < 4 := by omega
    go_wp2_with fail
    go_ret
    exact ⟨rfl, below_new HB2.out _⟩
  | conf t s so d r h hr =>
    have h4' : ¬ (l.length : Int) < 4 := by rw [h]; simp; omega
    have hlen : 4 ≤ l.length := by rw [h]; simp
    obtain ⟨b, off, rfl, hbl, hat⟩ := HR2.out.at' (by rw [List.length_map]; omega)
    have x0 := hat 0 (.int .u8 t) (by rw [h]; rfl)
    have x1 := hat 1 (.int .u8 s) (by rw [h]; rfl)
    have x2 := hat 2 (.int .u8 so) (by rw [h]; rfl)
    have x3 := hat 3 (.int .u8 d) (by rw [h]; rfl)
    have b0 := HR2.out.byt t (by rw [h]; simp)
    have b1 := HR2.out.byt s (by rw [h]; simp)
    have b2 := HR2.out.byt so (by rw [h]; simp)
    have b3 := HR2.out.byt d (by rw [h]; simp)
    have v0 : IntKind.i64.wrap t = t := IntWalk.i64_in _ (by omega)
    have v1 : IntKind.i64.wrap s = s := IntWalk.i64_in _ (by omega)
    have v2 : IntKind.i64.wrap so = so := IntWalk.i64_in _ (by omega)
    have v3 : IntKind.i64.wrap d = d := IntWalk.i64_in _ (by omega)
    have hn0 : 0 < l.length := by omega
    have hn1 : 1 < l.length := by omega
    have hn2 : 2 < l.length := by omega
    have hn3 : 3 < l.length := by omega
    obtain ⟨n, HN⟩ : ∃ n, Hid (l.length = n) := ⟨_, Lib.hid rfl⟩
    have HRR := Lib.hid hr
    clear h hr b0 b1 b2 b3 hat HR2
    rw [HN.out] at hn0 hn1 hn2 hn3 h4' hs' ⊢
    go_wp2_with fail
    have HBm := Lib.hid (below_new HB2.out (.cells #[.int .i64 0, .int .i64 0, .int .i64 0, .int .i64 0, .slice none 0 0] 29))
    have hX : ∀ wx, Below w2.heap.size w2 wx → wx.cell? ⟨b, off, none⟩ = some (.int .u8 t) ∧ wx.cell? ⟨b, off + 1, none⟩ = some (.int .u8 s) ∧ wx.cell? ⟨b, off + 2, none⟩ = some (.int .u8 so) ∧ wx.cell? ⟨b, off + 3, none⟩ = some (.int .u8 d) := fun wx hb =>
      ⟨(hb.cell (p := ⟨b, off, none⟩) hbl).trans x0, (hb.cell (p := ⟨b, off + 1, none⟩) hbl).trans x1, (hb.cell (p := ⟨b, off + 2, none⟩) hbl).trans x2, (hb.cell (p := ⟨b, off + 3, none⟩) hbl).trans x3⟩
    have HX := Lib.hid hX
    clear hX x0 x1 x2 x3
    refine wp_region_seqS ((fun wx => wx.cell? ⟨b, off, none⟩ = some (.int .u8 t) ∧ wx.cell? ⟨b, off + 1, none⟩ = some (.int .u8 s) ∧ wx.cell? ⟨b, off + 2, none⟩ = some (.int .u8 so) ∧ wx.cell? ⟨b, off + 3, none⟩ = some (.int .u8 d))) ((0, true) :: (1, true) :: (2, true) :: (3, true) :: (4, true) :: (5, true) :: (6, true) :: (7, true) :: (8, true) :: (9, true) :: (10, true) :: (11, true) :: (12, true) :: (13, true) :: (14, true) :: (15, true) :: (16, true) :: (17, false) :: (18, false) :: []) (by kernel_rfl) (by kernel_rfl) (by kernel_rfl) (by decide) (fun _ _ _ _ _ h => h) (HX.out _ (below_new (Below.refl _ _) _).drew) ?_
    have HBd := Lib.hid HBm.out.drew
    have HBe := Lib.hid (below_new (Below.refl w2.heap.size w2) (.cells #[.int .i64 0, .int .i64 0, .int .i64 0, .int .i64 0, .slice none 0 0] 29)).drew
    generalize (w2.alloc (.cells #[.int .i64 0, .int .i64 0, .int .i64 0, .int .i64 0, .slice none 0 0] 29)).drew = w3 at HBd HBe ⊢
    have hi0 : (0 : Int) < (n : Int) := by omega
    have hi1 : (1 : Int) < (n : Int) := by omega
    have hi2 : (2 : Int) < (n : Int) := by omega
    have hi3 : (3 : Int) < (n : Int) := by omega
    repeat (first | (refine seq_take (v := ?_) rfl ?_ ?_ ?_; rotate_left 1; rfl; (focus (intro wS hSw; obtain ⟨c0, c1, c2, c3⟩ := hSw; go_simp; first | done | with_reducible rfl)); (try simp only [Act.put, List.setIfInBounds_toArray, List.set_cons_zero, List.set_cons_succ])) | (refine seq_skip rfl ?_ ?_; rfl; (try simp only [Act.put, List.setIfInBounds_toArray, List.set_cons_zero, List.set_cons_succ])))
    clear hi0 hi1 hi2 hi3
    refine seq_run rfl (fun K hK => ?_)
    go_simp
    refine hK.out _ _ (HX.out _ (below_new HBe.out _)) (fun _ => ?_)
    (try simp only [Act.put, List.setIfInBounds_toArray, List.set_cons_zero, List.set_cons_succ])
    clear hK K
    refine seq_run rfl (fun K hK => ?_)
    go_simp
    refine hK.out _ _ (HX.out _ (below_new HBe.out _)) (fun _ => ?_)
    (try simp only [Act.put, List.setIfInBounds_toArray, List.set_cons_zero, List.set_cons_succ])
    clear hK K
    refine seq_done ?_
    have HB4 := Lib.hid (below_new HBd.out (.cells #[.int .i64 t, .int .i64 s, .int .i64 so, .int .i64 d] 24))
    go_wp2_with fail
    refine (cright_at t s so d false HRR.out _).mono ?_
    rintro r' w4 ⟨rfl, hb4⟩
    have HB5 := Lib.hid (below_step HB4.out hb4)
    clear hb4
    go_wp2_with fail
    go_ret
    exact ⟨rfl, HB5.out⟩
  | bad t s so d r n e h hr hd he =>
    have hn : ∃ ms : List CM, (∀ m ∈ ms, m.Good) ∧ ms.length ≤ 65536 ∧ n = ((encs ms).length : Int) ∧ e = 3 ∧ (encs ms).length < r.length ∧ ∃ q, r = encs ms ++ q := by
      have hlr : r.length + 4 = l.length := by rw [h]; simp
      cases hd with
      | ok ms _ _ _ => exact absurd rfl he
      | form ms q h1 h2 h3 h4 h5 =>
        refine ⟨ms, h1, h2, rfl, rfl, ?_, q, h3⟩
        rw [h3, List.length_append]
        have : 0 < q.length := List.length_pos_iff.2 h4
        omega
      | many ms m q h1 h2 h3 h4 =>
        have h5 := encs_len ms
        have h6 := congrArg List.length h3
        rw [List.length_append] at h6
        have := HS.out
        omega
    obtain ⟨ms, hg, hms, rfl, rfl, hlt, q, hq⟩ := hn
    clear hd he
    obtain ⟨K, HK⟩ : ∃ K : Nat, Hid (K = 4 + (encs ms).length) := ⟨_, Lib.hid rfl⟩
    have HKl := Lib.hid (show K < l.length by have e1 := HK.out; have : l.length = r.length + 4 := by rw [h]; simp
                                              omega)
    have HTK := Lib.hid (show l.take K = t :: s :: so :: d :: encs ms by rw [HK.out, h, Nat.add_comm, List.take_succ_cons, List.take_succ_cons, List.take_succ_cons, List.take_succ_cons, hq, List.take_left])
    have HG := Lib.hid hg
    have HMS := Lib.hid hms
    rw [show (((encs ms).length : Int) + 4) = (K : Int) by have := HK.out; omega]
    clear hg hms hlt hq
    have h4' : ¬ (l.length : Int) < 4 := by rw [h]; simp; omega
    have hlen : 4 ≤ l.length := by rw [h]; simp
    have HR3 := HR2
    obtain ⟨b, off, rfl, hbl, hat⟩ := HR2.out.at' (by rw [List.length_map]; omega)
    have x0 := hat 0 (.int .u8 t) (by rw [h]; rfl)
    have x1 := hat 1 (.int .u8 s) (by rw [h]; rfl)
    have x2 := hat 2 (.int .u8 so) (by rw [h]; rfl)
    have x3 := hat 3 (.int .u8 d) (by rw [h]; rfl)
    have b0 := HR2.out.byt t (by rw [h]; simp)
    have b1 := HR2.out.byt s (by rw [h]; simp)
    have b2 := HR2.out.byt so (by rw [h]; simp)
    have b3 := HR2.out.byt d (by rw [h]; simp)
    have v0 : IntKind.i64.wrap t = t := IntWalk.i64_in _ (by omega)
    have v1 : IntKind.i64.wrap s = s := IntWalk.i64_in _ (by omega)
    have v2 : IntKind.i64.wrap so = so := IntWalk.i64_in _ (by omega)
    have v3 : IntKind.i64.wrap d = d := IntWalk.i64_in _ (by omega)
    have hn0 : 0 < l.length := by omega
    have hn1 : 1 < l.length := by omega
    have hn2 : 2 < l.length := by omega
    have hn3 : 3 < l.length := by omega
    obtain ⟨n, HN⟩ : ∃ n, Hid (l.length = n) := ⟨_, Lib.hid rfl⟩
    have HRR := Lib.hid hr
    clear h hr b0 b1 b2 b3 hat HR2 hlen
    rw [HN.out] at hn0 hn1 hn2 hn3 h4' hs' ⊢
    go_wp2_with fail
    have HBm := Lib.hid (below_new HB2.out (.cells #[.int .i64 0, .int .i64 0, .int .i64 0, .int .i64 0, .slice none 0 0] 29))
    have hX : ∀ wx, Below w2.heap.size w2 wx → wx.cell? ⟨b, off, none⟩ = some (.int .u8 t) ∧ wx.cell? ⟨b, off + 1, none⟩ = some (.int .u8 s) ∧ wx.cell? ⟨b, off + 2, none⟩ = some (.int .u8 so) ∧ wx.cell? ⟨b, off + 3, none⟩ = some (.int .u8 d) := fun wx hb =>
      ⟨(hb.cell (p := ⟨b, off, none⟩) hbl).trans x0, (hb.cell (p := ⟨b, off + 1, none⟩) hbl).trans x1, (hb.cell (p := ⟨b, off + 2, none⟩) hbl).trans x2, (hb.cell (p := ⟨b, off + 3, none⟩) hbl).trans x3⟩
    have HX := Lib.hid hX
    clear hX x0 x1 x2 x3
    refine wp_region_seqS ((fun wx => wx.cell? ⟨b, off, none⟩ = some (.int .u8 t) ∧ wx.cell? ⟨b, off + 1, none⟩ = some (.int .u8 s) ∧ wx.cell? ⟨b, off + 2, none⟩ = some (.int .u8 so) ∧ wx.cell? ⟨b, off + 3, none⟩ = some (.int .u8 d))) ((0, true) :: (1, true) :: (2, true) :: (3, true) :: (4, true) :: (5, true) :: (6, true) :: (7, true) :: (8, true) :: (9, true) :: (10, true) :: (11, true) :: (12, true) :: (13, true) :: (14, true) :: (15, true) :: (16, true) :: (17, false) :: (18, false) :: []) (by kernel_rfl) (by kernel_rfl) (by kernel_rfl) (by decide) (fun _ _ _ _ _ h => h) (HX.out _ (below_new (Below.refl _ _) _).drew) ?_
    have HBd := Lib.hid HBm.out.drew
    have HBe := Lib.hid (below_new (Below.refl w2.heap.size w2) (.cells #[.int .i64 0, .int .i64 0, .int .i64 0, .int .i64 0, .slice none 0 0] 29)).drew
    generalize (w2.alloc (.cells #[.int .i64 0, .int .i64 0, .int .i64 0, .int .i64 0, .slice none 0 0] 29)).drew = w3 at HBd HBe ⊢
    have hi0 : (0 : Int) < (n : Int) := by omega
    have hi1 : (1 : Int) < (n : Int) := by omega
    have hi2 : (2 : Int) < (n : Int) := by omega
    have hi3 : (3 : Int) < (n : Int) := by omega
    repeat (first | (refine seq_take (v := ?_) rfl ?_ ?_ ?_; rotate_left 1; rfl; (focus (intro wS hSw; obtain ⟨c0, c1, c2, c3⟩ := hSw; go_simp; first | done | with_reducible rfl)); (try simp only [Act.put, List.setIfInBounds_toArray, List.set_cons_zero, List.set_cons_succ])) | (refine seq_skip rfl ?_ ?_; rfl; (try simp only [Act.put, List.setIfInBounds_toArray, List.set_cons_zero, List.set_cons_succ])))
    clear hi0 hi1 hi2 hi3
    refine seq_run rfl (fun K hK => ?_)
    go_simp
    refine hK.out _ _ (HX.out _ (below_new HBe.out _)) (fun _ => ?_)
    (try simp only [Act.put, List.setIfInBounds_toArray, List.set_cons_zero, List.set_cons_succ])
    clear hK K
    refine seq_run rfl (fun K hK => ?_)
    go_simp
    refine hK.out _ _ (HX.out _ (below_new HBe.out _)) (fun _ => ?_)
    (try simp only [Act.put, List.setIfInBounds_toArray, List.set_cons_zero, List.set_cons_succ])
    clear hK K
    refine seq_done ?_
    have HB4 := Lib.hid (below_new HBd.out (.cells #[.int .i64 t, .int .i64 s, .int .i64 so, .int .i64 d] 24))
    go_wp2_with fail
    refine (cright_at t s so d true HRR.out _).mono ?_
    rintro r' w4 ⟨rfl, hb4⟩
    have HB5 := Lib.hid (below_step HB4.out hb4)
    have HR5 := Lib.hid (HR3.out.later (below_step (below_new HBe.out (.cells #[.int .i64 t, .int .i64 s, .int .i64 so, .int .i64 d] 24)) hb4))
    clear hb4
    have hk1 : (K : Int) < (n : Int) := by have := HKl.out; have := HN.out; omega
    have hk2 : ¬ (K : Int) < 4 := by have := HK.out; omega
    have hk3 : K ≤ cap0 := by have := HC.out; have := HKl.out; omega
    have hk4 : ¬ (n : Int) ≤ (K : Int) := by omega
    go_wp2_with fail
    have hlk : (l.take K).length = K := by rw [List.length_take]; have := HKl.out; omega
    have hca := decode_any (some ⟨b, off, none⟩) (l.take K) cap0 w4 (by have h1 := HR5.out.at'; rw [← List.take_append_drop K l, List.map_append] at h1; exact h1.left) (fun x hx => HR5.out.byt x (List.mem_of_mem_take hx)) (by rw [hlk]; exact hk3) (by rw [hlk]; have := HKl.out; have := HS.out; omega)
    rw [hlk] at hca
    have HCA := Lib.hid hca
    clear hca
    refine HCA.out.mono ?_
    rintro r' w6 ⟨v6, n6, e6, rfl, hb6, hD6⟩
    obtain ⟨rfl, hn6, A6, cp6, rfl, _⟩ := hD6.yes HTK.out HRR.out HG.out HMS.out
    rw [hlk] at hn6
    subst hn6
    have HB6 := Lib.hid (below_step HB5.out hb6)
    clear hb6 hD6 HCA hlk
    go_wp2_with fail
    go_ret
    exact ⟨rfl, below_new HB6.out _⟩
  | ok t s so d r ms A cp h hr hd ho =>
    have hm := hd.yes rfl
    obtain ⟨hg, hms, rfl⟩ := hm
    have HG := Lib.hid hg
    have HRR := Lib.hid hr
    have HMS := Lib.hid hms
    have HL := Lib.hid h
    have HI := Lib.hid ((IsAt.own ho).later (below_new (Below.refl _ _) (.cells #[.int .i64 t, .int .i64 s, .int .i64 so, .int .i64 d, .slice A ms.length cp] 29)))
    have HBB := Lib.hid (below_new HB2.out (.cells #[.int .i64 t, .int .i64 s, .int .i64 so, .int .i64 d, .slice A ms.length cp] 29))
    have HRB := Lib.hid (HR2.out.later (below_new (Below.refl _ _) (.cells #[.int .i64 t, .int .i64 s, .int .i64 so, .int .i64 d, .slice A ms.length cp] 29)))
    clear hd ho hg hr hms h
    go_wp2_with fail
    refine (encode_any t s so d A cp ms _ HI.out (fun m hm => (HG.out m hm).2) (by have := HMS.out; omega)).mono ?_
    rintro r' w4 ⟨v4, e4, rfl, hb4, hE⟩
    obtain ⟨rfl, ho4⟩ := hE.yes HRR.out HMS.out (fun m hm => (HG.out m hm).1)
    obtain ⟨A4, cp4, rfl⟩ := own_shape ho4
    have HA4 := Lib.hid (Row8.own ho4 (byt_script HRR.out (fun m hm => (HG.out m hm).1)))
    have HB4 := Lib.hid (below_step HBB.out hb4)
    have HR4 := Lib.hid (HRB.out.later hb4)
    have heq : decide (([t, s, so, d] ++ encs ms) = l) = true := decide_eq_true HL.out.symm
    have HEQ := Lib.hid heq
    clear hb4 ho4 hE heq
    go_wp2_with fail
    refine (same18_any A4 a0 ([t, s, so, d] ++ encs ms) l cp4 cap0 _ HA4.out HR4.out).mono ?_
    rintro r' w5 ⟨rfl, rfl⟩
    rw [HEQ.out]
    go_wp2_with fail
    go_ret
    exact ⟨rfl, HB4.out⟩
end Go.Proofs.Ytpfjommkjkbonaa
