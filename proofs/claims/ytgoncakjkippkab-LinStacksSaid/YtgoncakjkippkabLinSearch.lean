/-
  A search for an order under way: what it holds, and the contracts of what is asked of it. No condition but that the list is no longer than 100000.
-/
import Derived.Test.YtgoncakjkippkabLinDo
import Derived.Test.YtgoncakjkippkabHistCalls
namespace Go.Proofs.Ytgoncakjkippkab
open Go.RowKit
set_option linter.unusedVariables false

theorem elem_bool : ElemAt Try.prog 57 4 (.bool false) 1 1 := ElemAt.mk' Try.underlying57 (by kernel_rfl) rfl (by decide)
/-- Does it stand in the order? -/
def inS (S : List Bool) (i : Nat) : Prop := S.getD i false = true
theorem inS_set {S : List Bool} {i : Nat} (hi : i < S.length) (k : Nat) : inS (S.set i true) k ↔ inS S k ∨ k = i := by
  unfold inS
  rw [List.getD_eq_getElem?_getD, List.getD_eq_getElem?_getD, List.getElem?_set]
  by_cases e : i = k
  · subst e
    rw [if_pos rfl, if_pos hi]
    simp
  · rw [if_neg e]
    exact ⟨.inl, fun h => h.resolve_right (fun h => e h.symm)⟩
theorem inS_back {S : List Bool} {i : Nat} (hi : i < S.length) (h : ¬ inS S i) : (S.set i true).set i false = S := by
  rw [List.set_set]
  have h2 : S[i] = false := by
    unfold inS at h
    rw [List.getD_eq_getElem?_getD, List.getElem?_eq_getElem hi] at h
    simpa using h
  rw [← h2]
  exact List.set_getElem_self hi
theorem row_bool {w : World} {base : Nat} {n cap g : Nat} {S : List Bool} (h : w.ownsRow base 4 1 (.slice (some ⟨g, 0, none⟩) n cap) n (S.map Value.bool)) {j : Nat} (hj : j < n) : w.cell? ⟨g, j, none⟩ = some (.bool (S.getD j false)) := by
  have hl := h.1
  rw [List.length_map] at hl
  rw [h.cellAt j (by omega), List.getElem?_map, List.getD_eq_getElem?_getD, List.getElem?_eq_getElem (by omega)]
  rfl

/-- Numbers that are read. -/
def tU (base : Nat) (a : Option Addr) (R : List Int) : Thing := ⟨fun w => IsU w a R ∧ (0 < R.length → ∀ k off, a = some ⟨k, off, none⟩ → base ≤ k), fun k => 0 < R.length ∧ ∃ off, a = some ⟨k, off, none⟩⟩
theorem tU_ok (base : Nat) (a : Option Addr) (R : List Int) : (tU base a R).Ok base := by
  refine ⟨fun w w' T h k hn => ⟨fun hp => ?_, h.2⟩, fun w i h hi => ?_⟩
  · obtain ⟨g, off, h1, h2, h3⟩ := h.1 hp
    have hg : ¬ T g := hn g ⟨hp, off, h1⟩
    exact ⟨g, off, h1, Nat.lt_of_lt_of_le h2 k.size, fun i hi => k.cell (h3 i hi) hg⟩
  · obtain ⟨hp, off, ha⟩ := hi
    obtain ⟨g, off', h1, h2, _⟩ := h.1 hp
    rw [ha] at h1
    cases h1
    exact ⟨h.2 hp _ _ ha, h2⟩

/-- What a search holds. -/
def SrL (base bs : Nat) (a0 : Option Addr) (n cap0 sg : Nat) (S : List Bool) (OV : Value) (O : List Nat) : List Thing :=
  [tObj base bs [.slice a0 n cap0, .slice (some ⟨sg, 0, none⟩) n n, OV], tRow base 4 1 (.slice (some ⟨sg, 0, none⟩) n n) n (S.map Value.bool), tRow base 3 1 OV O.length (O.map (fun i : Nat => i64 (i : Int)))]
def SrH (W w : World) (bs : Nat) (a0 : Option Addr) (n cap0 : Nat) (S : List Bool) (O : List Nat) (X : List Thing) : Prop :=
  S.length = n ∧ ∃ sg OV, Hold W w (SrL W.heap.size bs a0 n cap0 sg S OV O ++ X)
section
variable {W w w' : World} {bs : Nat} {a0 : Option Addr} {n cap0 : Nat} {S : List Bool} {O : List Nat} {X : List Thing}
theorem SrH.later (h : SrH W w bs a0 n cap0 S O X) (e : Below w.heap.size w w') : SrH W w' bs a0 n cap0 S O X := by
  obtain ⟨h1, sg, OV, h2⟩ := h
  exact ⟨h1, sg, OV, h2.later e⟩
theorem SrH.below (h : SrH W w bs a0 n cap0 S O X) : Below W.heap.size W w := by
  obtain ⟨h1, sg, OV, h2⟩ := h
  exact h2.below
/-- Its cells. -/
theorem SrH.at' (h : SrH W w bs a0 n cap0 S O X) : ∃ sg OV, w.cell? ⟨bs, 0, none⟩ = some (.slice a0 n cap0) ∧ w.cell? ⟨bs, 1, none⟩ = some (.slice (some ⟨sg, 0, none⟩) n n) ∧ w.cell? ⟨bs, 2, none⟩ = some OV ∧ ∀ j, j < n → w.cell? ⟨sg, j, none⟩ = some (.bool (S.getD j false)) := by
  obtain ⟨h1, sg, OV, h2⟩ := h
  have hO : IsObj w bs [.slice a0 n cap0, .slice (some ⟨sg, 0, none⟩) n n, OV] := (h2.has 0 _ rfl).1
  exact ⟨sg, OV, hO.at' 0 _ rfl, hO.at' 1 _ rfl, hO.at' 2 _ rfl, fun j hj => row_bool (h2.has 1 _ rfl) hj⟩
end

set_option maxHeartbeats 4000000 in
theorem whole_any (W w : World) (bs : Nat) (a0 : Option Addr) (n cap0 tb off : Nat) (l : List Dd) (S : List Bool) (O : List Nat) (X : List Thing) (bb : Bool) (h : SrH W w bs a0 n cap0 S O X) (hl : IsDds W a0 n cap0 tb off l) (hn : n ≤ 100000)
    (hb : bb = true ↔ ∀ (i : Nat) (d : Dd), l[i]? = some d → 0 ≤ d.till → inS S i) :
    Calls Try.prog 30 #[pt bs] w fun r w' => r = .returned (.bool bb) ∧ Below w.heap.size w w' := by
  have HH := Lib.hid h
  have HL := Lib.hid hl
  have HBB := Lib.hid hb
  have hcap := hl.2.1
  obtain ⟨sg, OV, c0, c1, c2, hbits⟩ := h.at'
  have HBIT := Lib.hid hbits
  have hsb := World.block_lt_of_cell? w _ c0
  clear h hl hb hbits
  have HC : Hid (∀ w', Below w.heap.size w w' → w'.cell? ⟨bs, 1, none⟩ = some (.slice (some ⟨sg, 0, none⟩) n n)) := fun w' hb' => (hb'.cell (p := ⟨bs, 1, none⟩) hsb).trans c1
  clear c1 c2
  go_enter Try.func30, Try.ntmps30
  go_wp2_with fail
  have HB0 := Lib.hid (Below.refl w.heap.size w)
  clear c0
  go_loopw [10] (fun iw wr => ∃ i : Nat, i ≤ n ∧ iw = .int .i64 i ∧ Hid (Below w.heap.size w wr) ∧ Hid (∀ (j : Nat) (d : Dd), j < i → l[j]? = some d → 0 ≤ d.till → inS S j)) (fun iw _ => n - (RowKit.intOf iw).toNat)
  case atStart => exact ⟨0, Nat.zero_le _, rfl, HB0, fun j d hj => absurd hj (Nat.not_lt_zero _)⟩
  case round =>
    clear HB0
    obtain ⟨i, hi, rfl, HB, HP⟩ := hrel
    rcases Nat.lt_or_ge i n with hil | hil
    · have hil' : (i : Int) < (n : Int) := by omega
      obtain ⟨d, hd⟩ : ∃ d, l[i]? = some d := ⟨_, List.getElem?_eq_getElem (by rw [HL.out.1]; exact hil)⟩
      obtain ⟨rfl, htb⟩ := HL.out.2.2.1 (by omega)
      obtain ⟨hA, hF⟩ := (HL.out.later (HH.out.below.trans (HB.out.mono HH.out.below.size)) (fun _ => htb)).2.2.2 i d hd
      obtain ⟨d0, d1, d2, d3, d4, d5, d6, d7, d8, d9, d10⟩ := hA
      have c1 := HC.out wr HB.out
      have cb := (HB.out.cell (p := ⟨sg, i, none⟩) (World.block_lt_of_cell? w _ (HBIT.out i hil))).trans (HBIT.out i hil)
      have HBN := Lib.hid (below_new HB.out (d.obj 38))
      have s1 : bs < wr.heap.size := World.block_lt_of_cell? wr _ c1
      have s2 : sg < wr.heap.size := World.block_lt_of_cell? wr _ cb
      have HD := Lib.hid hd
      clear hd hF
      by_cases ht : 0 ≤ d.till
      case pos =>
        have e1 : decide (0 ≤ d.till) = true := decide_eq_true ht
        have HT := Lib.hid ht
        clear ht
        cases hs : S.getD i false
        case true =>
          rw [hs] at cb
          have HS := Lib.hid hs
          clear hs
          go_wp2_with fail
          go_roundw
          case rel =>
            refine ⟨i + 1, by omega, by go_num, HBN, fun j e hj he hte => ?_⟩
            rcases (by omega : j < i ∨ j = i) with hj | rfl
            · exact HP.out j e hj he hte
            · exact HS.out
          case measure => first | omega | (simp [RowKit.intOf]; done) | (simp [RowKit.intOf]; omega)
        case false =>
          rw [hs] at cb
          have HS := Lib.hid hs
          clear hs
          obtain rfl : bb = false := by
            cases bb with
            | false => rfl
            | true =>
              have := HBB.out.1 rfl i d HD.out HT.out
              unfold inS at this
              rw [HS.out] at this
              cases this
          go_wp2_with fail
          go_ret
          exact ⟨rfl, HBN.out⟩
      case neg =>
        have e1 : decide (0 ≤ d.till) = false := decide_eq_false ht
        have HT := Lib.hid ht
        clear ht
        go_wp2_with fail
        go_roundw
        case rel =>
          refine ⟨i + 1, by omega, by go_num, HBN, fun j e hj he hte => ?_⟩
          rcases (by omega : j < i ∨ j = i) with hj | rfl
          · exact HP.out j e hj he hte
          · rw [HD.out] at he
            cases he
            exact absurd hte HT.out
        case measure => first | omega | (simp [RowKit.intOf]; done) | (simp [RowKit.intOf]; omega)
    · obtain rfl : i = n := by omega
      have hnl : ¬ (i : Int) < (i : Int) := by omega
      obtain rfl : bb = true := HBB.out.2 (fun j e he hte => HP.out j e (by have := (List.getElem?_eq_some_iff.1 he).1; have := HL.out.1; omega) he hte)
      go_wp2_with fail
      go_ret
      exact ⟨rfl, HB.out⟩

set_option maxHeartbeats 8000000 in
theorem ready_any (W w : World) (bs : Nat) (a0 : Option Addr) (n cap0 tb off : Nat) (l : List Dd) (S : List Bool) (O : List Nat) (X : List Thing) (i : Nat) (d0 : Dd) (bb : Bool) (h : SrH W w bs a0 n cap0 S O X) (hl : IsDds W a0 n cap0 tb off l) (hn : n ≤ 100000)
    (hd0 : l[i]? = some d0) (hself : ¬ dBef d0 d0) (hb : bb = true ↔ LFree l (inS S) i d0) :
    Calls Try.prog 31 #[pt bs, .int .i64 i] w fun r w' => r = .returned (.bool bb) ∧ Below w.heap.size w w' := by
  have HH := Lib.hid h
  have HL := Lib.hid hl
  have HBB := Lib.hid hb
  have hcap := hl.2.1
  have hin : i < n := by have := (List.getElem?_eq_some_iff.1 hd0).1; have := hl.1; omega
  have hin' : (i : Int) < (n : Int) := by omega
  obtain ⟨sg, OV, c0, c1, c2, hbits⟩ := h.at'
  have HBIT := Lib.hid hbits
  have hsb := World.block_lt_of_cell? w _ c0
  have HD0 := Lib.hid hd0
  have HSELF := Lib.hid hself
  have cbi := hbits i hin
  clear h hl hb hbits hd0 hself
  have HC : Hid (∀ w', Below w.heap.size w w' → w'.cell? ⟨bs, 0, none⟩ = some (.slice a0 n cap0) ∧ w'.cell? ⟨bs, 1, none⟩ = some (.slice (some ⟨sg, 0, none⟩) n n)) := fun w' hb' => ⟨(hb'.cell (p := ⟨bs, 0, none⟩) hsb).trans c0, (hb'.cell (p := ⟨bs, 1, none⟩) hsb).trans c1⟩
  cases hsi : S.getD i false
  case true =>
    rw [hsi] at cbi
    obtain rfl : bb = false := by
      cases bb with
      | false => rfl
      | true => exact absurd hsi (HBB.out.1 rfl).1
    clear hsi
    go_enter Try.func31, Try.ntmps31
    go_wp2_with fail
    go_ret
    exact ⟨rfl, Below.refl _ _⟩
  case false =>
    rw [hsi] at cbi
    have HSI := Lib.hid hsi
    clear hsi
    go_enter Try.func31, Try.ntmps31
    go_wp2_with fail
    have HB0 := Lib.hid (Below.refl w.heap.size w)
    clear c0 c1 c2 cbi
    go_loopw [19] (fun iw wr => ∃ j : Nat, j ≤ n ∧ iw = .int .i64 j ∧ Hid (Below w.heap.size w wr) ∧ Hid (∀ (k : Nat) (o : Dd), k < j → l[k]? = some o → inS S k ∨ ¬ dBef o d0)) (fun iw _ => n - (RowKit.intOf iw).toNat)
    case atStart => exact ⟨0, Nat.zero_le _, rfl, HB0, fun j d hj => absurd hj (Nat.not_lt_zero _)⟩
    case round =>
      clear HB0
      obtain ⟨j, hj, rfl, HB, HP⟩ := hrel
      rcases Nat.lt_or_ge j n with hjl | hjl
      · have hjl' : (j : Int) < (n : Int) := by omega
        obtain ⟨d, hd⟩ : ∃ d, l[j]? = some d := ⟨_, List.getElem?_eq_getElem (by rw [HL.out.1]; exact hjl)⟩
        obtain ⟨rfl, htb⟩ := HL.out.2.2.1 (by omega)
        have hLB := HL.out.later (HH.out.below.trans (HB.out.mono HH.out.below.size)) (fun _ => htb)
        obtain ⟨d0', d1, d2, d3, d4, d5, d6, d7, d8, d9, d10⟩ := (hLB.2.2.2 j d hd).1
        obtain ⟨c0, c1⟩ := HC.out wr HB.out
        have cb := (HB.out.cell (p := ⟨sg, j, none⟩) (World.block_lt_of_cell? w _ (HBIT.out j hjl))).trans (HBIT.out j hjl)
        have HBN := Lib.hid (below_new HB.out (d.obj 38))
        have s1 : bs < wr.heap.size := World.block_lt_of_cell? wr _ c1
        have s2 : sg < wr.heap.size := World.block_lt_of_cell? wr _ cb
        have s3 : tb < wr.heap.size := World.block_lt_of_cell? wr _ d1
        have HD := Lib.hid hd
        have HLB := Lib.hid hLB
        clear hd hLB
        by_cases hji : j = i
        case pos =>
          subst hji
          rw [HD.out] at HD0
          obtain rfl : d = d0 := by
            have := HD0.out
            cases this
            rfl
          go_wp2_with fail
          refine wp_region_seq ((0, true) :: (1, true) :: (2, true) :: (3, true) :: (4, true) :: (5, true) :: (6, true) :: (7, true) :: (8, true) :: (9, true) :: (10, true) :: (11, true) :: (12, true) :: (13, true) :: (14, true) :: (15, true) :: (16, true) :: (17, true) :: (18, true) :: (19, true) :: (20, true) :: (21, true) :: (22, false) :: (23, true) :: []) (by kernel_rfl) (by kernel_rfl) (by kernel_rfl) (by decide) (fun _ _ _ _ _ h => h) (fun hHeld => ?_)
          repeat (first
            | (refine seq_take (v := ?_) rfl ?_ ?_ ?_; rotate_left 1; rfl; (focus (intro wS hSw; have hk := below_rule hSw; go_simp; first | done | with_reducible rfl)); (try simp only [Act.put, List.setIfInBounds_toArray, List.set_cons_zero, List.set_cons_succ]))
            | (refine seq_skip rfl ?_ ?_; rfl; (try simp only [Act.put, List.setIfInBounds_toArray, List.set_cons_zero, List.set_cons_succ]))
            | (refine seq_run rfl (fun K hK => ?_); go_simp; (try skip); (try go_wp2_with fail); refine hK.out _ _ ?_ ?_; (focus (first | exact below_step hHeld hb' | exact below_new hHeld _ | exact hHeld)); (try clear hb'); clear hHeld hK K; intro hHeld; (try simp only [Act.put, List.setIfInBounds_toArray, List.set_cons_zero, List.set_cons_succ])))
          first | refine seq_done ?_ | skip
          have HX := Lib.hid (below_step HBN.out hHeld)
          clear hHeld
          go_wp2_with fail
          go_roundw
          case rel =>
            refine ⟨j + 1, by omega, by go_num, HX, fun k o hk ho => ?_⟩
            rcases (by omega : k < j ∨ k = j) with hk | rfl
            · exact HP.out k o hk ho
            · rw [HD.out] at ho
              cases ho
              exact .inr HSELF.out
          case measure => first | omega | (simp [RowKit.intOf]; done) | (simp [RowKit.intOf]; omega)
        case neg =>
          have p1 : ((j : Int) == (i : Int)) = false := beq_false_of_ne (by omega)
          have p2 : ((j : Int) != (i : Int)) = true := by rw [bne, p1]; rfl
          cases hsj : S.getD j false
          case true =>
            rw [hsj] at cb
            have HSJ := Lib.hid hsj
            clear hsj
            go_wp2_with fail
            refine wp_region_seq ((0, true) :: (1, true) :: (2, true) :: (3, true) :: (4, true) :: (5, true) :: (6, true) :: (7, true) :: (8, true) :: (9, true) :: (10, true) :: (11, true) :: (12, true) :: (13, true) :: (14, true) :: (15, true) :: (16, true) :: (17, true) :: (18, true) :: (19, true) :: (20, true) :: (21, true) :: (22, false) :: (23, true) :: []) (by kernel_rfl) (by kernel_rfl) (by kernel_rfl) (by decide) (fun _ _ _ _ _ h => h) (fun hHeld => ?_)
            repeat (first
              | (refine seq_take (v := ?_) rfl ?_ ?_ ?_; rotate_left 1; rfl; (focus (intro wS hSw; have hk := below_rule hSw; go_simp; first | done | with_reducible rfl)); (try simp only [Act.put, List.setIfInBounds_toArray, List.set_cons_zero, List.set_cons_succ]))
              | (refine seq_skip rfl ?_ ?_; rfl; (try simp only [Act.put, List.setIfInBounds_toArray, List.set_cons_zero, List.set_cons_succ]))
              | (refine seq_run rfl (fun K hK => ?_); go_simp; (try skip); (try go_wp2_with fail); refine hK.out _ _ ?_ ?_; (focus (first | exact below_step hHeld hb' | exact below_new hHeld _ | exact hHeld)); (try clear hb'); clear hHeld hK K; intro hHeld; (try simp only [Act.put, List.setIfInBounds_toArray, List.set_cons_zero, List.set_cons_succ])))
            first | refine seq_done ?_ | skip
            have HX := Lib.hid (below_step HBN.out hHeld)
            clear hHeld
            go_wp2_with fail
            go_roundw
            case rel =>
              refine ⟨j + 1, by omega, by go_num, HX, fun k o hk ho => ?_⟩
              rcases (by omega : k < j ∨ k = j) with hk | rfl
              · exact HP.out k o hk ho
              · exact .inl HSJ.out
            case measure => first | omega | (simp [RowKit.intOf]; done) | (simp [RowKit.intOf]; omega)
          case false =>
            rw [hsj] at cb
            have HSJ := Lib.hid hsj
            clear hsj
            obtain ⟨f0, f1, f2, f3, f4, f5, f6, f7, f8, f9, f10⟩ := (HLB.out.2.2.2 i d0 HD0.out).1
            by_cases hbef : dBef d d0
            case pos =>
              have e1 : decide (dBef d d0) = true := decide_eq_true hbef
              obtain rfl : bb = false := by
                cases bb with
                | false => rfl
                | true =>
                  rcases (HBB.out.1 rfl).2 j d HD.out with hh | hh
                  · unfold inS at hh
                    rw [HSJ.out] at hh
                    cases hh
                  · exact absurd hbef hh
              clear hbef
              go_wp2_with fail
              refine wp_region_seq ((0, true) :: (1, true) :: (2, true) :: (3, true) :: (4, true) :: (5, true) :: (6, true) :: (7, true) :: (8, true) :: (9, true) :: (10, true) :: (11, true) :: (12, true) :: (13, true) :: (14, true) :: (15, true) :: (16, true) :: (17, true) :: (18, true) :: (19, true) :: (20, true) :: (21, true) :: (22, false) :: (23, true) :: []) (by kernel_rfl) (by kernel_rfl) (by kernel_rfl) (by decide) (fun _ _ _ _ _ h => h) (fun hHeld => ?_)
              repeat (first
                | (refine seq_take (v := ?_) rfl ?_ ?_ ?_; rotate_left 1; rfl; (focus (intro wS hSw; have hk := below_rule hSw; go_simp; first | done | with_reducible rfl)); (try simp only [Act.put, List.setIfInBounds_toArray, List.set_cons_zero, List.set_cons_succ]))
                | (refine seq_skip rfl ?_ ?_; rfl; (try simp only [Act.put, List.setIfInBounds_toArray, List.set_cons_zero, List.set_cons_succ]))
                | (refine seq_run rfl (fun K hK => ?_); go_simp; (try (first | (go_at_call 35; refine (hbefore_any _ d d0).mono ?_; rintro e w' ⟨rfl, hb'⟩))); (try go_wp2_with fail); refine hK.out _ _ ?_ ?_; (focus (first | exact below_step hHeld hb' | exact below_new hHeld _ | exact hHeld)); (try clear hb'); clear hHeld hK K; intro hHeld; (try simp only [Act.put, List.setIfInBounds_toArray, List.set_cons_zero, List.set_cons_succ])))
              first | refine seq_done ?_ | skip
              have HX := Lib.hid (below_step HBN.out hHeld)
              clear hHeld
              go_wp2_with fail
              go_ret
              exact ⟨rfl, HX.out⟩
            case neg =>
              have e1 : decide (dBef d d0) = false := decide_eq_false hbef
              have HBEF := Lib.hid hbef
              clear hbef
              go_wp2_with fail
              refine wp_region_seq ((0, true) :: (1, true) :: (2, true) :: (3, true) :: (4, true) :: (5, true) :: (6, true) :: (7, true) :: (8, true) :: (9, true) :: (10, true) :: (11, true) :: (12, true) :: (13, true) :: (14, true) :: (15, true) :: (16, true) :: (17, true) :: (18, true) :: (19, true) :: (20, true) :: (21, true) :: (22, false) :: (23, true) :: []) (by kernel_rfl) (by kernel_rfl) (by kernel_rfl) (by decide) (fun _ _ _ _ _ h => h) (fun hHeld => ?_)
              repeat (first
                | (refine seq_take (v := ?_) rfl ?_ ?_ ?_; rotate_left 1; rfl; (focus (intro wS hSw; have hk := below_rule hSw; go_simp; first | done | with_reducible rfl)); (try simp only [Act.put, List.setIfInBounds_toArray, List.set_cons_zero, List.set_cons_succ]))
                | (refine seq_skip rfl ?_ ?_; rfl; (try simp only [Act.put, List.setIfInBounds_toArray, List.set_cons_zero, List.set_cons_succ]))
                | (refine seq_run rfl (fun K hK => ?_); go_simp; (try (first | (go_at_call 35; refine (hbefore_any _ d d0).mono ?_; rintro e w' ⟨rfl, hb'⟩))); (try go_wp2_with fail); refine hK.out _ _ ?_ ?_; (focus (first | exact below_step hHeld hb' | exact below_new hHeld _ | exact hHeld)); (try clear hb'); clear hHeld hK K; intro hHeld; (try simp only [Act.put, List.setIfInBounds_toArray, List.set_cons_zero, List.set_cons_succ])))
              first | refine seq_done ?_ | skip
              have HX := Lib.hid (below_step HBN.out hHeld)
              clear hHeld
              go_wp2_with fail
              go_roundw
              case rel =>
                refine ⟨j + 1, by omega, by go_num, HX, fun k o hk ho => ?_⟩
                rcases (by omega : k < j ∨ k = j) with hk | rfl
                · exact HP.out k o hk ho
                · rw [HD.out] at ho
                  cases ho
                  exact .inr HBEF.out
              case measure => first | omega | (simp [RowKit.intOf]; done) | (simp [RowKit.intOf]; omega)
      · obtain rfl : j = n := by omega
        have hnl : ¬ (j : Int) < (j : Int) := by omega
        obtain rfl : bb = true := HBB.out.2 ⟨(fun hh => by unfold inS at hh; rw [HSI.out] at hh; cases hh), fun k o ho => HP.out k o (by have := (List.getElem?_eq_some_iff.1 ho).1; have := HL.out.1; omega) ho⟩
        go_wp2_with fail
        go_ret
        exact ⟨rfl, HB.out⟩
end Go.Proofs.Ytgoncakjkippkab
