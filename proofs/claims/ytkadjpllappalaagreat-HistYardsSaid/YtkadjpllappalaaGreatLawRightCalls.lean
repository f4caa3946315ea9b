/-
  The contract of the law's own 'right': whether calls may have been done so. No condition but that the list is no longer than 100000.
-/
import Derived.Test.YtkadjpllappalaaGreatRightCalls
import Derived.Test.YtkadjpllappalaaGreatHistHead
import Derived.Deep.DeepCutAuto
namespace Go.Proofs.YtkadjpllappalaaGreat
open Go.RowKit Go.Maps
set_option linter.unusedVariables false

theorem not_all' {l : List Dd} {i n : Nat} {d : Dd} {b : Bool} (hb : b = true ↔ DRight l n) (hd : l[i]? = some d) (hi : i < n) (hn : ¬ ROk l i d) : b = false := by
  cases b with
  | false => rfl
  | true => exact absurd (hb.1 rfl) (DRight.not hd hi hn)
theorem apart_next {l : List Dd} {d o : Dd} {k : Nat} (h : ∀ j p, j < k → l[j]? = some p → rApart d p) (ho : l[k]? = some o) (ha : rApart d o) : ∀ j p, j < k + 1 → l[j]? = some p → rApart d p := fun j p hj hp => by
  by_cases e : j = k
  · subst e
    rw [ho] at hp
    cases hp
    exact ha
  · exact h j p (by omega) hp
theorem rFrom_zero {l : List Dd} {i : Nat} {d : Dd} (hi : i = 0) (h : 0 ≤ d.fr) : rFrom l i d := ⟨h, fun j p hj => by omega⟩
theorem rFrom_succ {l : List Dd} {i j : Nat} {d p : Dd} (hi : i = j + 1) (hp : l[j]? = some p) (h : 0 ≤ d.fr) (hf : ¬ d.fr ≤ p.fr) : rFrom l i d := ⟨h, fun j' p' hj' hp' => by
  obtain rfl : j' = j := by omega
  rw [hp] at hp'
  cases hp'
  omega⟩

set_option maxRecDepth 100000 in
set_option maxHeartbeats 8000000 in
theorem lright_any (w : World) (a0 : Option Addr) (len cap tb off : Nat) (l : List Dd) (b : Bool) (h : IsDds w a0 len cap tb off l) (hn : len ≤ 100000) (hb : b = true ↔ DRight l len) :
    Calls Tryz.prog 8 #[.slice a0 len cap] w fun e w' => e = .returned (.bool b) ∧ Below w.heap.size w w' := by
  have HL := Lib.hid h
  have HBB := Lib.hid hb
  clear h hb
  go_enter Tryz.func8, Tryz.ntmps8
  go_wp2_with fail
  go_loopw [10] (fun iw wr => ∃ i : Nat, i ≤ len ∧ iw = .int .i64 i ∧ DRight l i ∧ Hid (Below w.heap.size w wr)) (fun iw _ => len - (intOf iw).toNat)
  case atStart => exact ⟨0, Nat.zero_le _, rfl, DRight.zero, Below.refl _ _⟩
  case round =>
    obtain ⟨i, hi, rfl, hpre, HB⟩ := hrel
    have HP := Lib.hid hpre
    clear hpre
    rcases Nat.lt_or_ge i len with hil | hil
    · have hil' : (i : Int) < (len : Int) := by omega
      have hll : i ≤ l.length := by rw [HL.out.1]; exact hi
      obtain ⟨d, hd⟩ : ∃ d, l[i]? = some d := ⟨_, List.getElem?_eq_getElem (by rw [HL.out.1]; exact hil)⟩
      obtain ⟨rfl, htb⟩ := HL.out.2.2.1 (by omega)
      obtain ⟨hA, _⟩ := (HL.out.later HB.out (fun _ => htb)).2.2.2 i d hd
      have hcap := HL.out.2.1
      obtain ⟨c0, c1, c2, c3, c4, c5, c6, c7, c8, c9, c10⟩ := hA
      have HD := Lib.hid hd
      clear hd
      go_wp2_with fail
      have HX1 := Lib.hid (AtBd.made wr d 46)
      have HB1 := Lib.hid (below_new HB.out (d.obj 46))
      clear c0 c1 c2 c3 c4 c5 c6 c7 c8 c9 c10 HB
      generalize wr.alloc (d.obj 46) = W1 at HX1 HB1 ⊢
      generalize wr.heap.size = B at HX1 ⊢
      go_cut [50] (fun v wx => ∃ y : Bool, v = .bool y ∧ Hid (y = false → rFrom l i d ∧ rTill d ∧ cOk d) ∧ Hid (y = true → ¬ ROk l i d) ∧ Hid (Below W1.heap.size W1 wx))
      case first =>
        obtain ⟨g0, g1, g2, g3, g4, g5, g6, g7, g8, g9, g10⟩ := HX1.out
        by_cases hf0 : d.fr < 0
        case pos =>
          have HN : Hid (¬ ROk l i d) := Lib.hid (fun h => by have := h.frm.1; omega)
          refine wp_region_seq ((0, true) :: (1, true) :: (2, true) :: (3, true) :: (4, true) :: (5, true) :: (6, true) :: (7, true) :: (8, true) :: (9, true) :: (10, true) :: (11, true) :: (12, true) :: (13, true) :: (14, true) :: (15, true) :: (16, true) :: (17, true) :: (18, true) :: (19, true) :: (20, true) :: (21, true) :: (22, true) :: (23, true) :: (24, true) :: (25, true) :: (26, true) :: (27, true) :: (28, true) :: (29, true) :: (30, true) :: (31, true) :: (32, true) :: (33, false) :: (34, true) :: (35, true) :: []) (by kernel_rfl) (by kernel_rfl) (by kernel_rfl) (by decide) (fun _ _ _ _ _ h => h) (fun hHeld => ?_)
          repeat (first
            | (refine seq_take (v := ?_) rfl ?_ ?_ ?_; rotate_left 1; rfl; (focus (intro wS hSw; have hk := below_rule hSw; go_simp; first | done | with_reducible rfl)); (try simp only [Act.put, List.setIfInBounds_toArray, List.set_cons_zero, List.set_cons_succ]))
            | (refine seq_skip rfl ?_ ?_; rfl; (try simp only [Act.put, List.setIfInBounds_toArray, List.set_cons_zero, List.set_cons_succ]))
            | (refine seq_run rfl (fun K hK => ?_); go_simp; (try (first | (go_at_call 20; refine (tcright_any _ d).mono ?_; rintro e w' ⟨rfl, hb'⟩))); (try go_wp2_with fail); refine hK.out _ _ ?_ ?_; (focus (first | exact below_step hHeld hb' | exact below_new hHeld _ | exact hHeld)); (try clear hb'); clear hHeld hK K; intro hHeld; (try simp only [Act.put, List.setIfInBounds_toArray, List.set_cons_zero, List.set_cons_succ])))
          first | refine seq_done ?_ | skip
          go_wp2_with fail
          go_meet
          exact ⟨true, rfl, Lib.hid (fun hh => nomatch hh), Lib.hid (fun _ => HN.out), Lib.hid hHeld⟩
        case neg =>
          rcases Nat.eq_zero_or_pos i with hi0 | hip
          · have p1 : decide (0 < i) = false := decide_eq_false (by omega)
            have HF : Hid (rFrom l i d) := Lib.hid (rFrom_zero hi0 (by omega))
            clear hi0
            by_cases ht : 0 ≤ d.till
            case pos =>
              have p5 : d.till ≥ 0 := ht
              by_cases htf : d.till ≤ d.fr
              case pos =>
                have HN : Hid (¬ ROk l i d) := Lib.hid (fun h => by have := h.till ht; omega)
                refine wp_region_seq ((0, true) :: (1, true) :: (2, true) :: (3, true) :: (4, true) :: (5, true) :: (6, true) :: (7, true) :: (8, true) :: (9, true) :: (10, true) :: (11, true) :: (12, true) :: (13, true) :: (14, true) :: (15, true) :: (16, true) :: (17, true) :: (18, true) :: (19, true) :: (20, true) :: (21, true) :: (22, true) :: (23, true) :: (24, true) :: (25, true) :: (26, true) :: (27, true) :: (28, true) :: (29, true) :: (30, true) :: (31, true) :: (32, true) :: (33, false) :: (34, true) :: (35, true) :: []) (by kernel_rfl) (by kernel_rfl) (by kernel_rfl) (by decide) (fun _ _ _ _ _ h => h) (fun hHeld => ?_)
                repeat (first
                  | (refine seq_take (v := ?_) rfl ?_ ?_ ?_; rotate_left 1; rfl; (focus (intro wS hSw; have hk := below_rule hSw; go_simp; first | done | with_reducible rfl)); (try simp only [Act.put, List.setIfInBounds_toArray, List.set_cons_zero, List.set_cons_succ]))
                  | (refine seq_skip rfl ?_ ?_; rfl; (try simp only [Act.put, List.setIfInBounds_toArray, List.set_cons_zero, List.set_cons_succ]))
                  | (refine seq_run rfl (fun K hK => ?_); go_simp; (try (first | (go_at_call 20; refine (tcright_any _ d).mono ?_; rintro e w' ⟨rfl, hb'⟩))); (try go_wp2_with fail); refine hK.out _ _ ?_ ?_; (focus (first | exact below_step hHeld hb' | exact below_new hHeld _ | exact hHeld)); (try clear hb'); clear hHeld hK K; intro hHeld; (try simp only [Act.put, List.setIfInBounds_toArray, List.set_cons_zero, List.set_cons_succ])))
                first | refine seq_done ?_ | skip
                go_wp2_with fail
                go_meet
                exact ⟨true, rfl, Lib.hid (fun hh => nomatch hh), Lib.hid (fun _ => HN.out), Lib.hid hHeld⟩
              case neg =>
                have HT : Hid (rTill d) := Lib.hid (fun _ => by omega)
                by_cases hco : cOk d
                case pos =>
                  have e1 : decide (cOk d) = true := decide_eq_true hco
                  refine wp_region_seq ((0, true) :: (1, true) :: (2, true) :: (3, true) :: (4, true) :: (5, true) :: (6, true) :: (7, true) :: (8, true) :: (9, true) :: (10, true) :: (11, true) :: (12, true) :: (13, true) :: (14, true) :: (15, true) :: (16, true) :: (17, true) :: (18, true) :: (19, true) :: (20, true) :: (21, true) :: (22, true) :: (23, true) :: (24, true) :: (25, true) :: (26, true) :: (27, true) :: (28, true) :: (29, true) :: (30, true) :: (31, true) :: (32, true) :: (33, false) :: (34, true) :: (35, true) :: []) (by kernel_rfl) (by kernel_rfl) (by kernel_rfl) (by decide) (fun _ _ _ _ _ h => h) (fun hHeld => ?_)
                  repeat (first
                    | (refine seq_take (v := ?_) rfl ?_ ?_ ?_; rotate_left 1; rfl; (focus (intro wS hSw; have hk := below_rule hSw; go_simp; first | done | with_reducible rfl)); (try simp only [Act.put, List.setIfInBounds_toArray, List.set_cons_zero, List.set_cons_succ]))
                    | (refine seq_skip rfl ?_ ?_; rfl; (try simp only [Act.put, List.setIfInBounds_toArray, List.set_cons_zero, List.set_cons_succ]))
                    | (refine seq_run rfl (fun K hK => ?_); go_simp; (try (first | (go_at_call 20; refine (tcright_any _ d).mono ?_; rintro e w' ⟨rfl, hb'⟩))); (try go_wp2_with fail); refine hK.out _ _ ?_ ?_; (focus (first | exact below_step hHeld hb' | exact below_new hHeld _ | exact hHeld)); (try clear hb'); clear hHeld hK K; intro hHeld; (try simp only [Act.put, List.setIfInBounds_toArray, List.set_cons_zero, List.set_cons_succ])))
                  first | refine seq_done ?_ | skip
                  go_wp2_with fail
                  go_meet
                  exact ⟨false, rfl, Lib.hid (fun _ => ⟨HF.out, HT.out, hco⟩), Lib.hid (fun hh => nomatch hh), Lib.hid hHeld⟩
                case neg =>
                  have e1 : decide (cOk d) = false := decide_eq_false hco
                  refine wp_region_seq ((0, true) :: (1, true) :: (2, true) :: (3, true) :: (4, true) :: (5, true) :: (6, true) :: (7, true) :: (8, true) :: (9, true) :: (10, true) :: (11, true) :: (12, true) :: (13, true) :: (14, true) :: (15, true) :: (16, true) :: (17, true) :: (18, true) :: (19, true) :: (20, true) :: (21, true) :: (22, true) :: (23, true) :: (24, true) :: (25, true) :: (26, true) :: (27, true) :: (28, true) :: (29, true) :: (30, true) :: (31, true) :: (32, true) :: (33, false) :: (34, true) :: (35, true) :: []) (by kernel_rfl) (by kernel_rfl) (by kernel_rfl) (by decide) (fun _ _ _ _ _ h => h) (fun hHeld => ?_)
                  repeat (first
                    | (refine seq_take (v := ?_) rfl ?_ ?_ ?_; rotate_left 1; rfl; (focus (intro wS hSw; have hk := below_rule hSw; go_simp; first | done | with_reducible rfl)); (try simp only [Act.put, List.setIfInBounds_toArray, List.set_cons_zero, List.set_cons_succ]))
                    | (refine seq_skip rfl ?_ ?_; rfl; (try simp only [Act.put, List.setIfInBounds_toArray, List.set_cons_zero, List.set_cons_succ]))
                    | (refine seq_run rfl (fun K hK => ?_); go_simp; (try (first | (go_at_call 20; refine (tcright_any _ d).mono ?_; rintro e w' ⟨rfl, hb'⟩))); (try go_wp2_with fail); refine hK.out _ _ ?_ ?_; (focus (first | exact below_step hHeld hb' | exact below_new hHeld _ | exact hHeld)); (try clear hb'); clear hHeld hK K; intro hHeld; (try simp only [Act.put, List.setIfInBounds_toArray, List.set_cons_zero, List.set_cons_succ])))
                  first | refine seq_done ?_ | skip
                  go_wp2_with fail
                  go_meet
                  exact ⟨true, rfl, Lib.hid (fun hh => nomatch hh), Lib.hid (fun _ h => hco h.call), Lib.hid hHeld⟩
            case neg =>
              have p5 : ¬ d.till ≥ 0 := ht
              have HT : Hid (rTill d) := Lib.hid (fun h => absurd h ht)
              by_cases hco : cOk d
              case pos =>
                have e1 : decide (cOk d) = true := decide_eq_true hco
                refine wp_region_seq ((0, true) :: (1, true) :: (2, true) :: (3, true) :: (4, true) :: (5, true) :: (6, true) :: (7, true) :: (8, true) :: (9, true) :: (10, true) :: (11, true) :: (12, true) :: (13, true) :: (14, true) :: (15, true) :: (16, true) :: (17, true) :: (18, true) :: (19, true) :: (20, true) :: (21, true) :: (22, true) :: (23, true) :: (24, true) :: (25, true) :: (26, true) :: (27, true) :: (28, true) :: (29, true) :: (30, true) :: (31, true) :: (32, true) :: (33, false) :: (34, true) :: (35, true) :: []) (by kernel_rfl) (by kernel_rfl) (by kernel_rfl) (by decide) (fun _ _ _ _ _ h => h) (fun hHeld => ?_)
                repeat (first
                  | (refine seq_take (v := ?_) rfl ?_ ?_ ?_; rotate_left 1; rfl; (focus (intro wS hSw; have hk := below_rule hSw; go_simp; first | done | with_reducible rfl)); (try simp only [Act.put, List.setIfInBounds_toArray, List.set_cons_zero, List.set_cons_succ]))
                  | (refine seq_skip rfl ?_ ?_; rfl; (try simp only [Act.put, List.setIfInBounds_toArray, List.set_cons_zero, List.set_cons_succ]))
                  | (refine seq_run rfl (fun K hK => ?_); go_simp; (try (first | (go_at_call 20; refine (tcright_any _ d).mono ?_; rintro e w' ⟨rfl, hb'⟩))); (try go_wp2_with fail); refine hK.out _ _ ?_ ?_; (focus (first | exact below_step hHeld hb' | exact below_new hHeld _ | exact hHeld)); (try clear hb'); clear hHeld hK K; intro hHeld; (try simp only [Act.put, List.setIfInBounds_toArray, List.set_cons_zero, List.set_cons_succ])))
                first | refine seq_done ?_ | skip
                go_wp2_with fail
                go_meet
                exact ⟨false, rfl, Lib.hid (fun _ => ⟨HF.out, HT.out, hco⟩), Lib.hid (fun hh => nomatch hh), Lib.hid hHeld⟩
              case neg =>
                have e1 : decide (cOk d) = false := decide_eq_false hco
                refine wp_region_seq ((0, true) :: (1, true) :: (2, true) :: (3, true) :: (4, true) :: (5, true) :: (6, true) :: (7, true) :: (8, true) :: (9, true) :: (10, true) :: (11, true) :: (12, true) :: (13, true) :: (14, true) :: (15, true) :: (16, true) :: (17, true) :: (18, true) :: (19, true) :: (20, true) :: (21, true) :: (22, true) :: (23, true) :: (24, true) :: (25, true) :: (26, true) :: (27, true) :: (28, true) :: (29, true) :: (30, true) :: (31, true) :: (32, true) :: (33, false) :: (34, true) :: (35, true) :: []) (by kernel_rfl) (by kernel_rfl) (by kernel_rfl) (by decide) (fun _ _ _ _ _ h => h) (fun hHeld => ?_)
                repeat (first
                  | (refine seq_take (v := ?_) rfl ?_ ?_ ?_; rotate_left 1; rfl; (focus (intro wS hSw; have hk := below_rule hSw; go_simp; first | done | with_reducible rfl)); (try simp only [Act.put, List.setIfInBounds_toArray, List.set_cons_zero, List.set_cons_succ]))
                  | (refine seq_skip rfl ?_ ?_; rfl; (try simp only [Act.put, List.setIfInBounds_toArray, List.set_cons_zero, List.set_cons_succ]))
                  | (refine seq_run rfl (fun K hK => ?_); go_simp; (try (first | (go_at_call 20; refine (tcright_any _ d).mono ?_; rintro e w' ⟨rfl, hb'⟩))); (try go_wp2_with fail); refine hK.out _ _ ?_ ?_; (focus (first | exact below_step hHeld hb' | exact below_new hHeld _ | exact hHeld)); (try clear hb'); clear hHeld hK K; intro hHeld; (try simp only [Act.put, List.setIfInBounds_toArray, List.set_cons_zero, List.set_cons_succ])))
                first | refine seq_done ?_ | skip
                go_wp2_with fail
                go_meet
                exact ⟨true, rfl, Lib.hid (fun hh => nomatch hh), Lib.hid (fun _ h => hco h.call), Lib.hid hHeld⟩
          · have p1 : decide (0 < i) = true := decide_eq_true (by omega)
            obtain ⟨j, hj⟩ : ∃ j, i = j + 1 := ⟨i - 1, by omega⟩
            have hw : IntKind.i64.wrap ((i : Int) - 1) = (j : Int) := by rw [hj, show (((j + 1 : Nat) : Int) - 1) = (j : Int) by omega]; exact IntWalk.i64_in _ (by omega)
            have hjl : j < len := by omega
            have HJ := Lib.hid hj
            obtain ⟨p, hp⟩ : ∃ p, l[j]? = some p := ⟨_, List.getElem?_eq_getElem (by rw [HL.out.1]; omega)⟩
            have r5 := ((HL.out.later HB1.out (fun _ => htb)).2.2.2 j p hp).1.c5
            have HPP := Lib.hid hp
            clear hj hip hp
            by_cases hfp : d.fr ≤ p.fr
            case pos =>
              have HN : Hid (¬ ROk l i d) := Lib.hid (fun h => by have := h.frm.2 j p HJ.out HPP.out; omega)
              refine wp_region_seq ((0, true) :: (1, true) :: (2, true) :: (3, true) :: (4, true) :: (5, true) :: (6, true) :: (7, true) :: (8, true) :: (9, true) :: (10, true) :: (11, true) :: (12, true) :: (13, true) :: (14, true) :: (15, true) :: (16, true) :: (17, true) :: (18, true) :: (19, true) :: (20, true) :: (21, true) :: (22, true) :: (23, true) :: (24, true) :: (25, true) :: (26, true) :: (27, true) :: (28, true) :: (29, true) :: (30, true) :: (31, true) :: (32, true) :: (33, false) :: (34, true) :: (35, true) :: []) (by kernel_rfl) (by kernel_rfl) (by kernel_rfl) (by decide) (fun _ _ _ _ _ h => h) (fun hHeld => ?_)
              repeat (first
                | (refine seq_take (v := ?_) rfl ?_ ?_ ?_; rotate_left 1; rfl; (focus (intro wS hSw; have hk := below_rule hSw; go_simp; first | done | with_reducible rfl)); (try simp only [Act.put, List.setIfInBounds_toArray, List.set_cons_zero, List.set_cons_succ]))
                | (refine seq_skip rfl ?_ ?_; rfl; (try simp only [Act.put, List.setIfInBounds_toArray, List.set_cons_zero, List.set_cons_succ]))
                | (refine seq_run rfl (fun K hK => ?_); go_simp; (try (first | (go_at_call 20; refine (tcright_any _ d).mono ?_; rintro e w' ⟨rfl, hb'⟩))); (try go_wp2_with fail); refine hK.out _ _ ?_ ?_; (focus (first | exact below_step hHeld hb' | exact below_new hHeld _ | exact hHeld)); (try clear hb'); clear hHeld hK K; intro hHeld; (try simp only [Act.put, List.setIfInBounds_toArray, List.set_cons_zero, List.set_cons_succ])))
              first | refine seq_done ?_ | skip
              go_wp2_with fail
              go_meet
              exact ⟨true, rfl, Lib.hid (fun hh => nomatch hh), Lib.hid (fun _ => HN.out), Lib.hid hHeld⟩
            case neg =>
              have HF : Hid (rFrom l i d) := Lib.hid (rFrom_succ HJ.out HPP.out (by omega) hfp)
              by_cases ht : 0 ≤ d.till
              case pos =>
                have p5 : d.till ≥ 0 := ht
                by_cases htf : d.till ≤ d.fr
                case pos =>
                  have HN : Hid (¬ ROk l i d) := Lib.hid (fun h => by have := h.till ht; omega)
                  refine wp_region_seq ((0, true) :: (1, true) :: (2, true) :: (3, true) :: (4, true) :: (5, true) :: (6, true) :: (7, true) :: (8, true) :: (9, true) :: (10, true) :: (11, true) :: (12, true) :: (13, true) :: (14, true) :: (15, true) :: (16, true) :: (17, true) :: (18, true) :: (19, true) :: (20, true) :: (21, true) :: (22, true) :: (23, true) :: (24, true) :: (25, true) :: (26, true) :: (27, true) :: (28, true) :: (29, true) :: (30, true) :: (31, true) :: (32, true) :: (33, false) :: (34, true) :: (35, true) :: []) (by kernel_rfl) (by kernel_rfl) (by kernel_rfl) (by decide) (fun _ _ _ _ _ h => h) (fun hHeld => ?_)
                  repeat (first
                    | (refine seq_take (v := ?_) rfl ?_ ?_ ?_; rotate_left 1; rfl; (focus (intro wS hSw; have hk := below_rule hSw; go_simp; first | done | with_reducible rfl)); (try simp only [Act.put, List.setIfInBounds_toArray, List.set_cons_zero, List.set_cons_succ]))
                    | (refine seq_skip rfl ?_ ?_; rfl; (try simp only [Act.put, List.setIfInBounds_toArray, List.set_cons_zero, List.set_cons_succ]))
                    | (refine seq_run rfl (fun K hK => ?_); go_simp; (try (first | (go_at_call 20; refine (tcright_any _ d).mono ?_; rintro e w' ⟨rfl, hb'⟩))); (try go_wp2_with fail); refine hK.out _ _ ?_ ?_; (focus (first | exact below_step hHeld hb' | exact below_new hHeld _ | exact hHeld)); (try clear hb'); clear hHeld hK K; intro hHeld; (try simp only [Act.put, List.setIfInBounds_toArray, List.set_cons_zero, List.set_cons_succ])))
                  first | refine seq_done ?_ | skip
                  go_wp2_with fail
                  go_meet
                  exact ⟨true, rfl, Lib.hid (fun hh => nomatch hh), Lib.hid (fun _ => HN.out), Lib.hid hHeld⟩
                case neg =>
                  have HT : Hid (rTill d) := Lib.hid (fun _ => by omega)
                  by_cases hco : cOk d
                  case pos =>
                    have e1 : decide (cOk d) = true := decide_eq_true hco
                    refine wp_region_seq ((0, true) :: (1, true) :: (2, true) :: (3, true) :: (4, true) :: (5, true) :: (6, true) :: (7, true) :: (8, true) :: (9, true) :: (10, true) :: (11, true) :: (12, true) :: (13, true) :: (14, true) :: (15, true) :: (16, true) :: (17, true) :: (18, true) :: (19, true) :: (20, true) :: (21, true) :: (22, true) :: (23, true) :: (24, true) :: (25, true) :: (26, true) :: (27, true) :: (28, true) :: (29, true) :: (30, true) :: (31, true) :: (32, true) :: (33, false) :: (34, true) :: (35, true) :: []) (by kernel_rfl) (by kernel_rfl) (by kernel_rfl) (by decide) (fun _ _ _ _ _ h => h) (fun hHeld => ?_)
                    repeat (first
                      | (refine seq_take (v := ?_) rfl ?_ ?_ ?_; rotate_left 1; rfl; (focus (intro wS hSw; have hk := below_rule hSw; go_simp; first | done | with_reducible rfl)); (try simp only [Act.put, List.setIfInBounds_toArray, List.set_cons_zero, List.set_cons_succ]))
                      | (refine seq_skip rfl ?_ ?_; rfl; (try simp only [Act.put, List.setIfInBounds_toArray, List.set_cons_zero, List.set_cons_succ]))
                      | (refine seq_run rfl (fun K hK => ?_); go_simp; (try (first | (go_at_call 20; refine (tcright_any _ d).mono ?_; rintro e w' ⟨rfl, hb'⟩))); (try go_wp2_with fail); refine hK.out _ _ ?_ ?_; (focus (first | exact below_step hHeld hb' | exact below_new hHeld _ | exact hHeld)); (try clear hb'); clear hHeld hK K; intro hHeld; (try simp only [Act.put, List.setIfInBounds_toArray, List.set_cons_zero, List.set_cons_succ])))
                    first | refine seq_done ?_ | skip
                    go_wp2_with fail
                    go_meet
                    exact ⟨false, rfl, Lib.hid (fun _ => ⟨HF.out, HT.out, hco⟩), Lib.hid (fun hh => nomatch hh), Lib.hid hHeld⟩
                  case neg =>
                    have e1 : decide (cOk d) = false := decide_eq_false hco
                    refine wp_region_seq ((0, true) :: (1, true) :: (2, true) :: (3, true) :: (4, true) :: (5, true) :: (6, true) :: (7, true) :: (8, true) :: (9, true) :: (10, true) :: (11, true) :: (12, true) :: (13, true) :: (14, true) :: (15, true) :: (16, true) :: (17, true) :: (18, true) :: (19, true) :: (20, true) :: (21, true) :: (22, true) :: (23, true) :: (24, true) :: (25, true) :: (26, true) :: (27, true) :: (28, true) :: (29, true) :: (30, true) :: (31, true) :: (32, true) :: (33, false) :: (34, true) :: (35, true) :: []) (by kernel_rfl) (by kernel_rfl) (by kernel_rfl) (by decide) (fun _ _ _ _ _ h => h) (fun hHeld => ?_)
                    repeat (first
                      | (refine seq_take (v := ?_) rfl ?_ ?_ ?_; rotate_left 1; rfl; (focus (intro wS hSw; have hk := below_rule hSw; go_simp; first | done | with_reducible rfl)); (try simp only [Act.put, List.setIfInBounds_toArray, List.set_cons_zero, List.set_cons_succ]))
                      | (refine seq_skip rfl ?_ ?_; rfl; (try simp only [Act.put, List.setIfInBounds_toArray, List.set_cons_zero, List.set_cons_succ]))
                      | (refine seq_run rfl (fun K hK => ?_); go_simp; (try (first | (go_at_call 20; refine (tcright_any _ d).mono ?_; rintro e w' ⟨rfl, hb'⟩))); (try go_wp2_with fail); refine hK.out _ _ ?_ ?_; (focus (first | exact below_step hHeld hb' | exact below_new hHeld _ | exact hHeld)); (try clear hb'); clear hHeld hK K; intro hHeld; (try simp only [Act.put, List.setIfInBounds_toArray, List.set_cons_zero, List.set_cons_succ])))
                    first | refine seq_done ?_ | skip
                    go_wp2_with fail
                    go_meet
                    exact ⟨true, rfl, Lib.hid (fun hh => nomatch hh), Lib.hid (fun _ h => hco h.call), Lib.hid hHeld⟩
              case neg =>
                have p5 : ¬ d.till ≥ 0 := ht
                have HT : Hid (rTill d) := Lib.hid (fun h => absurd h ht)
                by_cases hco : cOk d
                case pos =>
                  have e1 : decide (cOk d) = true := decide_eq_true hco
                  refine wp_region_seq ((0, true) :: (1, true) :: (2, true) :: (3, true) :: (4, true) :: (5, true) :: (6, true) :: (7, true) :: (8, true) :: (9, true) :: (10, true) :: (11, true) :: (12, true) :: (13, true) :: (14, true) :: (15, true) :: (16, true) :: (17, true) :: (18, true) :: (19, true) :: (20, true) :: (21, true) :: (22, true) :: (23, true) :: (24, true) :: (25, true) :: (26, true) :: (27, true) :: (28, true) :: (29, true) :: (30, true) :: (31, true) :: (32, true) :: (33, false) :: (34, true) :: (35, true) :: []) (by kernel_rfl) (by kernel_rfl) (by kernel_rfl) (by decide) (fun _ _ _ _ _ h => h) (fun hHeld => ?_)
                  repeat (first
                    | (refine seq_take (v := ?_) rfl ?_ ?_ ?_; rotate_left 1; rfl; (focus (intro wS hSw; have hk := below_rule hSw; go_simp; first | done | with_reducible rfl)); (try simp only [Act.put, List.setIfInBounds_toArray, List.set_cons_zero, List.set_cons_succ]))
                    | (refine seq_skip rfl ?_ ?_; rfl; (try simp only [Act.put, List.setIfInBounds_toArray, List.set_cons_zero, List.set_cons_succ]))
                    | (refine seq_run rfl (fun K hK => ?_); go_simp; (try (first | (go_at_call 20; refine (tcright_any _ d).mono ?_; rintro e w' ⟨rfl, hb'⟩))); (try go_wp2_with fail); refine hK.out _ _ ?_ ?_; (focus (first | exact below_step hHeld hb' | exact below_new hHeld _ | exact hHeld)); (try clear hb'); clear hHeld hK K; intro hHeld; (try simp only [Act.put, List.setIfInBounds_toArray, List.set_cons_zero, List.set_cons_succ])))
                  first | refine seq_done ?_ | skip
                  go_wp2_with fail
                  go_meet
                  exact ⟨false, rfl, Lib.hid (fun _ => ⟨HF.out, HT.out, hco⟩), Lib.hid (fun hh => nomatch hh), Lib.hid hHeld⟩
                case neg =>
                  have e1 : decide (cOk d) = false := decide_eq_false hco
                  refine wp_region_seq ((0, true) :: (1, true) :: (2, true) :: (3, true) :: (4, true) :: (5, true) :: (6, true) :: (7, true) :: (8, true) :: (9, true) :: (10, true) :: (11, true) :: (12, true) :: (13, true) :: (14, true) :: (15, true) :: (16, true) :: (17, true) :: (18, true) :: (19, true) :: (20, true) :: (21, true) :: (22, true) :: (23, true) :: (24, true) :: (25, true) :: (26, true) :: (27, true) :: (28, true) :: (29, true) :: (30, true) :: (31, true) :: (32, true) :: (33, false) :: (34, true) :: (35, true) :: []) (by kernel_rfl) (by kernel_rfl) (by kernel_rfl) (by decide) (fun _ _ _ _ _ h => h) (fun hHeld => ?_)
                  repeat (first
                    | (refine seq_take (v := ?_) rfl ?_ ?_ ?_; rotate_left 1; rfl; (focus (intro wS hSw; have hk := below_rule hSw; go_simp; first | done | with_reducible rfl)); (try simp only [Act.put, List.setIfInBounds_toArray, List.set_cons_zero, List.set_cons_succ]))
                    | (refine seq_skip rfl ?_ ?_; rfl; (try simp only [Act.put, List.setIfInBounds_toArray, List.set_cons_zero, List.set_cons_succ]))
                    | (refine seq_run rfl (fun K hK => ?_); go_simp; (try (first | (go_at_call 20; refine (tcright_any _ d).mono ?_; rintro e w' ⟨rfl, hb'⟩))); (try go_wp2_with fail); refine hK.out _ _ ?_ ?_; (focus (first | exact below_step hHeld hb' | exact below_new hHeld _ | exact hHeld)); (try clear hb'); clear hHeld hK K; intro hHeld; (try simp only [Act.put, List.setIfInBounds_toArray, List.set_cons_zero, List.set_cons_succ])))
                  first | refine seq_done ?_ | skip
                  go_wp2_with fail
                  go_meet
                  exact ⟨true, rfl, Lib.hid (fun hh => nomatch hh), Lib.hid (fun _ h => hco h.call), Lib.hid hHeld⟩
      case rest =>
        obtain ⟨y, rfl, HY0, HY1, HW⟩ := hcut
        cases y
        case true =>
          obtain rfl : b = false := not_all' HBB.out HD.out hil (HY1.out rfl)
          have HWW := Lib.hid (below_step HB1.out HW.out)
          clear HY0 HY1
          go_wp2_with fail
          go_ret
          exact ⟨rfl, HWW.out⟩
        case false =>
          have HY := Lib.hid (HY0.out rfl)
          clear HY0 HY1
          go_wp2_with fail
          go_loopw [5, 55] (fun ov kv wr => ∃ k : Nat, k ≤ i ∧ ov = .int .i64 (dOwn l d.who k) ∧ kv = .int .i64 k ∧ Hid (∀ j p, j < k → l[j]? = some p → rApart d p) ∧ Hid (Below W1.heap.size W1 wr)) (fun _ kv _ => i - (intOf kv).toNat)
          case atStart => exact ⟨0, Nat.zero_le _, rfl, rfl, fun j p hj => absurd hj (Nat.not_lt_zero _), HW⟩
          case round =>
            clear HW
            obtain ⟨k, hk, rfl, rfl, HA, HW⟩ := hrel
            obtain ⟨g0, g1, g2, g3, g4, g5, g6, g7, g8, g9, g10⟩ := HX1.out.later HW.out
            rcases Nat.lt_or_ge k i with hki | hki
            · have hki' : (k : Int) < (i : Int) := by omega
              obtain ⟨o, ho⟩ : ∃ o, l[k]? = some o := ⟨_, List.getElem?_eq_getElem (by rw [HL.out.1]; omega)⟩
              obtain ⟨hA, _⟩ := (HL.out.later (below_step HB1.out HW.out) (fun _ => htb)).2.2.2 k o ho
              obtain ⟨c0, c1, c2, c3, c4, c5, c6, c7, c8, c9, c10⟩ := hA
              have HO := Lib.hid ho
              have hbx : B < wr.heap.size := World.block_lt_of_cell? _ _ g0
              have HWN : Hid (Below W1.heap.size W1 (wr.alloc (o.obj 46))) := Lib.hid (below_step HW.out (below_new (Below.refl _ _) _))
              have HWE : Hid (Below w.heap.size w (wr.alloc (o.obj 46))) := Lib.hid (below_step HB1.out HWN.out)
              have hos := dOwn_succ ho d.who
              have HOS := Lib.hid hos
              clear ho hos
              by_cases hw : o.who = d.who
              case pos =>
                have q0 : (o.who == d.who) = true := beq_iff_eq.2 hw
                have HWH := Lib.hid hw
                clear hw
                by_cases h1 : d.fr = o.till
                case pos =>
                  have q1 : (d.fr == o.till) = true := beq_iff_eq.2 h1
                  have H1 := Lib.hid h1
                  clear h1
                  obtain rfl : b = false := not_all' HBB.out HD.out hil (fun h => (h.moves k o hki HO.out).1 H1.out)
                  go_wp2_with fail
                  go_ret
                  exact ⟨rfl, HWE.out⟩
                case neg =>
                  have q1 : (d.fr == o.till) = false := beq_false_of_ne h1
                  have H1 := Lib.hid h1
                  clear h1
                  by_cases h2 : 0 ≤ d.till
                  case neg =>
                    have q2 : ¬ d.till ≥ 0 := h2
                    have HAP : Hid (rApart d o) := Lib.hid ⟨H1.out, fun h => absurd h h2⟩
                    go_wp2_with fail
                    go_roundw
                    case rel => exact ⟨k + 1, by omega, congrArg (Value.int .i64) (by rw [HOS.out]; rw [if_pos HWH.out]), by go_num, Lib.hid (apart_next HA.out HO.out HAP.out), HWN⟩
                    case measure => first | omega | (simp [intOf]; done) | (simp [intOf]; omega)
                  case pos =>
                    have q2 : d.till ≥ 0 := h2
                    by_cases h3 : d.till = o.till
                    case pos =>
                      have q3 : (d.till == o.till) = true := beq_iff_eq.2 h3
                      have H3 := Lib.hid h3
                      clear h3
                      obtain rfl : b = false := not_all' HBB.out HD.out hil (fun h => ((h.moves k o hki HO.out).2 h2).1 H3.out)
                      go_wp2_with fail
                      go_ret
                      exact ⟨rfl, HWE.out⟩
                    case neg =>
                      have q3 : (d.till == o.till) = false := beq_false_of_ne h3
                      have H3 := Lib.hid h3
                      clear h3
                      by_cases h4 : d.till = o.fr
                      case pos =>
                        have q4 : (d.till == o.fr) = true := beq_iff_eq.2 h4
                        have H4 := Lib.hid h4
                        clear h4
                        obtain rfl : b = false := not_all' HBB.out HD.out hil (fun h => ((h.moves k o hki HO.out).2 h2).2 H4.out)
                        go_wp2_with fail
                        go_ret
                        exact ⟨rfl, HWE.out⟩
                      case neg =>
                        have q4 : (d.till == o.fr) = false := beq_false_of_ne h4
                        have HAP : Hid (rApart d o) := Lib.hid ⟨H1.out, fun _ => ⟨H3.out, h4⟩⟩
                        clear h4
                        go_wp2_with fail
                        go_roundw
                        case rel => exact ⟨k + 1, by omega, congrArg (Value.int .i64) (by rw [HOS.out]; rw [if_pos HWH.out]), by go_num, Lib.hid (apart_next HA.out HO.out HAP.out), HWN⟩
                        case measure => first | omega | (simp [intOf]; done) | (simp [intOf]; omega)
              case neg =>
                have q0 : (o.who == d.who) = false := beq_false_of_ne hw
                have HWH := Lib.hid hw
                clear hw
                by_cases h1 : d.fr = o.till
                case pos =>
                  have q1 : (d.fr == o.till) = true := beq_iff_eq.2 h1
                  have H1 := Lib.hid h1
                  clear h1
                  obtain rfl : b = false := not_all' HBB.out HD.out hil (fun h => (h.moves k o hki HO.out).1 H1.out)
                  go_wp2_with fail
                  go_ret
                  exact ⟨rfl, HWE.out⟩
                case neg =>
                  have q1 : (d.fr == o.till) = false := beq_false_of_ne h1
                  have H1 := Lib.hid h1
                  clear h1
                  by_cases h2 : 0 ≤ d.till
                  case neg =>
                    have q2 : ¬ d.till ≥ 0 := h2
                    have HAP : Hid (rApart d o) := Lib.hid ⟨H1.out, fun h => absurd h h2⟩
                    go_wp2_with fail
                    go_roundw
                    case rel => exact ⟨k + 1, by omega, congrArg (Value.int .i64) (by rw [HOS.out]; rw [if_neg HWH.out]), by go_num, Lib.hid (apart_next HA.out HO.out HAP.out), HWN⟩
                    case measure => first | omega | (simp [intOf]; done) | (simp [intOf]; omega)
                  case pos =>
                    have q2 : d.till ≥ 0 := h2
                    by_cases h3 : d.till = o.till
                    case pos =>
                      have q3 : (d.till == o.till) = true := beq_iff_eq.2 h3
                      have H3 := Lib.hid h3
                      clear h3
                      obtain rfl : b = false := not_all' HBB.out HD.out hil (fun h => ((h.moves k o hki HO.out).2 h2).1 H3.out)
                      go_wp2_with fail
                      go_ret
                      exact ⟨rfl, HWE.out⟩
                    case neg =>
                      have q3 : (d.till == o.till) = false := beq_false_of_ne h3
                      have H3 := Lib.hid h3
                      clear h3
                      by_cases h4 : d.till = o.fr
                      case pos =>
                        have q4 : (d.till == o.fr) = true := beq_iff_eq.2 h4
                        have H4 := Lib.hid h4
                        clear h4
                        obtain rfl : b = false := not_all' HBB.out HD.out hil (fun h => ((h.moves k o hki HO.out).2 h2).2 H4.out)
                        go_wp2_with fail
                        go_ret
                        exact ⟨rfl, HWE.out⟩
                      case neg =>
                        have q4 : (d.till == o.fr) = false := beq_false_of_ne h4
                        have HAP : Hid (rApart d o) := Lib.hid ⟨H1.out, fun _ => ⟨H3.out, h4⟩⟩
                        clear h4
                        go_wp2_with fail
                        go_roundw
                        case rel => exact ⟨k + 1, by omega, congrArg (Value.int .i64) (by rw [HOS.out]; rw [if_neg HWH.out]), by go_num, Lib.hid (apart_next HA.out HO.out HAP.out), HWN⟩
                        case measure => first | omega | (simp [intOf]; done) | (simp [intOf]; omega)
            · obtain rfl : k = i := by omega
              have hnl : ¬ (k : Int) < (k : Int) := by omega
              have HMV : Hid (rMoves l k d) := Lib.hid (fun j p hj hp => HA.out j p hj hp)
              clear HA
              by_cases hown : 0 ≤ dOwn l d.who k
              case neg =>
                have p1 : decide (0 ≤ dOwn l d.who k) = false := decide_eq_false hown
                have HRO : Hid (ROk l k d) := ⟨HY.out.2.2, HY.out.1, HY.out.2.1, HMV.out, fun j p hj _ => by omega⟩
                go_wp2_with fail
                refine wp_region_seq ((0, true) :: (1, true) :: (2, true) :: (3, true) :: (4, true) :: (5, true) :: (6, true) :: (7, true) :: (8, false) :: (9, true) :: (10, true) :: []) (by kernel_rfl) (by kernel_rfl) (by kernel_rfl) (by decide) (fun _ _ _ _ _ h => h) (fun hHeld => ?_)
                repeat (first
                  | (refine seq_take (v := ?_) rfl ?_ ?_ ?_; rotate_left 1; rfl; (focus (intro wS hSw; have hk := below_rule hSw; go_simp; first | done | with_reducible rfl)); (try simp only [Act.put, List.setIfInBounds_toArray, List.set_cons_zero, List.set_cons_succ]))
                  | (refine seq_skip rfl ?_ ?_; rfl; (try simp only [Act.put, List.setIfInBounds_toArray, List.set_cons_zero, List.set_cons_succ]))
                  | (refine seq_run rfl (fun K hK => ?_); go_simp; (try skip); (try go_wp2_with fail); refine hK.out _ _ ?_ ?_; (focus (first | exact below_step hHeld hb' | exact below_new hHeld _ | exact hHeld)); (try clear hb'); clear hHeld hK K; intro hHeld; (try simp only [Act.put, List.setIfInBounds_toArray, List.set_cons_zero, List.set_cons_succ])))
                first | refine seq_done ?_ | skip
                have HH := Lib.hid (below_step (below_step HB1.out HW.out) hHeld)
                clear hHeld
                go_wp2_with fail
                go_roundw
                case rel => exact ⟨k + 1, by omega, by go_num, HP.out.next HD.out HRO.out, HH⟩
                case measure => first | omega | (simp [intOf]; done) | (simp [intOf]; omega)
              case pos =>
                have hlt := (dOwn_lt (l := l) d.who k).2
                obtain ⟨q, hq⟩ : ∃ q : Nat, dOwn l d.who k = (q : Int) := ⟨(dOwn l d.who k).toNat, by omega⟩
                have hqk : q < len := by omega
                obtain ⟨o, ho⟩ : ∃ o, l[q]? = some o := ⟨_, List.getElem?_eq_getElem (by rw [HL.out.1]; omega)⟩
                obtain ⟨hA, _⟩ := (HL.out.later (below_step HB1.out HW.out) (fun _ => htb)).2.2.2 q o ho
                obtain ⟨c0, c1, c2, c3, c4, c5, c6, c7, c8, c9, c10⟩ := hA
                have HQ := Lib.hid hq
                have HO := Lib.hid ho
                have p1 : (q : Int) ≥ 0 := by omega
                rw [hq]
                clear hq ho hlt hown
                by_cases hbf : dBef o d
                case neg =>
                  have e2 : decide (dBef o d) = false := decide_eq_false hbf
                  obtain rfl : b = false := not_all' HBB.out HD.out hil (fun h => hbf (h.own q o HQ.out HO.out))
                  clear hbf
                  go_wp2_with fail
                  refine wp_region_seq ((0, true) :: (1, true) :: (2, true) :: (3, true) :: (4, true) :: (5, true) :: (6, true) :: (7, true) :: (8, false) :: (9, true) :: (10, true) :: []) (by kernel_rfl) (by kernel_rfl) (by kernel_rfl) (by decide) (fun _ _ _ _ _ h => h) (fun hHeld => ?_)
                  repeat (first
                    | (refine seq_take (v := ?_) rfl ?_ ?_ ?_; rotate_left 1; rfl; (focus (intro wS hSw; have hk := below_rule hSw; go_simp; first | done | with_reducible rfl)); (try simp only [Act.put, List.setIfInBounds_toArray, List.set_cons_zero, List.set_cons_succ]))
                    | (refine seq_skip rfl ?_ ?_; rfl; (try simp only [Act.put, List.setIfInBounds_toArray, List.set_cons_zero, List.set_cons_succ]))
                    | (refine seq_run rfl (fun K hK => ?_); go_simp; (try (first | (go_at_call 22; refine (lbefore_any _ o d).mono ?_; rintro e w' ⟨rfl, hb'⟩))); (try go_wp2_with fail); refine hK.out _ _ ?_ ?_; (focus (first | exact below_step hHeld hb' | exact below_new hHeld _ | exact hHeld)); (try clear hb'); clear hHeld hK K; intro hHeld; (try simp only [Act.put, List.setIfInBounds_toArray, List.set_cons_zero, List.set_cons_succ])))
                  first | refine seq_done ?_ | skip
                  have HH := Lib.hid (below_step (below_step HB1.out HW.out) hHeld)
                  clear hHeld
                  go_wp2_with fail
                  go_ret
                  exact ⟨rfl, HH.out⟩
                case pos =>
                  have e2 : decide (dBef o d) = true := decide_eq_true hbf
                  have HRO : Hid (ROk l k d) := ⟨HY.out.2.2, HY.out.1, HY.out.2.1, HMV.out, fun j p hj hp => by
                    have e := HQ.out
                    obtain rfl : j = q := by omega
                    rw [HO.out] at hp
                    cases hp
                    exact hbf⟩
                  go_wp2_with fail
                  refine wp_region_seq ((0, true) :: (1, true) :: (2, true) :: (3, true) :: (4, true) :: (5, true) :: (6, true) :: (7, true) :: (8, false) :: (9, true) :: (10, true) :: []) (by kernel_rfl) (by kernel_rfl) (by kernel_rfl) (by decide) (fun _ _ _ _ _ h => h) (fun hHeld => ?_)
                  repeat (first
                    | (refine seq_take (v := ?_) rfl ?_ ?_ ?_; rotate_left 1; rfl; (focus (intro wS hSw; have hk := below_rule hSw; go_simp; first | done | with_reducible rfl)); (try simp only [Act.put, List.setIfInBounds_toArray, List.set_cons_zero, List.set_cons_succ]))
                    | (refine seq_skip rfl ?_ ?_; rfl; (try simp only [Act.put, List.setIfInBounds_toArray, List.set_cons_zero, List.set_cons_succ]))
                    | (refine seq_run rfl (fun K hK => ?_); go_simp; (try (first | (go_at_call 22; refine (lbefore_any _ o d).mono ?_; rintro e w' ⟨rfl, hb'⟩))); (try go_wp2_with fail); refine hK.out _ _ ?_ ?_; (focus (first | exact below_step hHeld hb' | exact below_new hHeld _ | exact hHeld)); (try clear hb'); clear hHeld hK K; intro hHeld; (try simp only [Act.put, List.setIfInBounds_toArray, List.set_cons_zero, List.set_cons_succ])))
                  first | refine seq_done ?_ | skip
                  have HH := Lib.hid (below_step (below_step HB1.out HW.out) hHeld)
                  clear hHeld
                  go_wp2_with fail
                  go_roundw
                  case rel => exact ⟨k + 1, by omega, by go_num, HP.out.next HD.out HRO.out, HH⟩
                  case measure => first | omega | (simp [intOf]; done) | (simp [intOf]; omega)
    · obtain rfl : i = len := by omega
      have hnl : ¬ (i : Int) < (i : Int) := by omega
      obtain rfl : b = true := HBB.out.2 HP.out
      go_wp2_with fail
      go_ret
      exact ⟨rfl, HB.out⟩
end Go.Proofs.YtkadjpllappalaaGreat
