/-
  The contract of Find: an order that is one, or none where there is none. No condition but that no call was over ahead of its own beginning, and that calls are right.
-/
import Derived.Test.YtgoncakjkippkabLinSearch
import Derived.Deep.DeepCutAuto
namespace Go.Proofs.Ytgoncakjkippkab
open Go.RowKit
set_option linter.unusedVariables false

theorem stV_ans {R : List Int} {d : Dd} (hk : d.kd = 1) (he : d.e = 0 ∨ d.e = 1) : (if d.kd = 1 ∧ R ≠ [] then (if d.e = 1 then R.getD (R.length - 1) 0 else R.getD 0 0) else 0) = stV R d.e := by
  unfold stV
  by_cases hr : R = []
  · rw [if_pos hr, if_neg (fun h => h.2 hr)]
  · rw [if_neg hr, if_pos ⟨hk, hr⟩]
    rcases he with he | he
    · rw [he, if_pos rfl, if_neg (by decide)]
    · rw [he, if_pos rfl, if_neg (by decide)]

set_option maxHeartbeats 2000000 in
theorem answered_any (w : World) (a : Option Addr) (cap : Nat) (R : List Int) (d : Dd) (h : IsU w a R) (hc : R.length ≤ cap) (hn : R.length ≤ 1000000) (he : d.e = 0 ∨ d.e = 1) :
    Calls Try.prog 33 #[d.val, .slice a R.length cap] w fun r w' => r = .returned (dAns R d).val ∧ Below w.heap.size w w' := by
  have HU := Lib.hid h
  clear h
  by_cases ht : 0 ≤ d.till
  case pos =>
    have HB := Lib.hid (below_new (below_new (Below.refl w.heap.size w) (d.obj 38)) (d.obj 38))
    have e1 : decide (0 ≤ d.till) = true := decide_eq_true ht
    have HA : Hid (dAns R d = d) := if_pos ht
    clear ht
    go_enter Try.func33, Try.ntmps33
    go_wp2_with fail
    rw [HA.out]
    exact bodyPost_ret (v := d.val) (by simp [results, Try.results33, go_sem]) rfl ⟨rfl, HB.out⟩
  case neg =>
    have e1 : decide (0 ≤ d.till) = false := decide_eq_false ht
    obtain ⟨D, hD⟩ : ∃ D : Dd, D = { d with ok := true, v := 0, lo := 0, hi := 0 } := ⟨_, rfl⟩
    have HB := Lib.hid (fun (E : Dd) => below_new (below_new (Below.refl w.heap.size w) (Dd.obj { d with ok := true, v := 0, lo := 0, hi := 0 } 38)) (E.obj 38))
    by_cases hk : d.kd = 1
    case pos =>
      have p1 : (d.kd == 1) = true := beq_iff_eq.2 hk
      have HA : Hid (dAns R d = { d with ok := true, v := stV R d.e, lo := 0, hi := 0 }) := by
        show _ = _
        unfold dAns
        rw [if_neg ht, stV_ans hk he]
      clear ht hk he
      go_enter Try.func33, Try.ntmps33
      go_wp2_with fail
      refine (standing_any _ a cap R d.e (HU.out.later (HB.out ⟨0, 0, 0, 0, 0, 0, 0, false, 0, 0, 0⟩)) hc hn).mono ?_
      rintro r w3 ⟨rfl, hb⟩
      have hO2 := (IsObj.made (w.alloc (Dd.obj { d with ok := true, v := 0, lo := 0, hi := 0 } 38)) (Dd.list ⟨0, 0, 0, 0, 0, 0, 0, false, 0, 0, 0⟩) 38).later hb
      have hO1 := ((IsObj.made w (Dd.list { d with ok := true, v := 0, lo := 0, hi := 0 }) 38).later (below_new (Below.refl _ _) (Dd.obj ⟨0, 0, 0, 0, 0, 0, 0, false, 0, 0, 0⟩ 38))).later hb
      rw [World.size_alloc] at hO2
      have HB3 := Lib.hid (below_step (HB.out ⟨0, 0, 0, 0, 0, 0, 0, false, 0, 0, 0⟩) hb)
      have c0 := hO1.at' 0 _ rfl
      have c1 := hO1.at' 1 _ rfl
      have c2 := hO1.at' 2 _ rfl
      have c3 := hO1.at' 3 _ rfl
      have c4 := hO1.at' 4 _ rfl
      have c5 := hO1.at' 5 _ rfl
      have c6 := hO1.at' 6 _ rfl
      have c7 := hO1.at' 7 _ rfl
      have c8 := hO1.at' 8 _ rfl
      have c9 := hO1.at' 9 _ rfl
      have c10 := hO1.at' 10 _ rfl
      have z8 := hO1.fz 8
      have k0 := hO2.at' 0 _ rfl
      have k1 := hO2.at' 1 _ rfl
      have k2 := hO2.at' 2 _ rfl
      have k3 := hO2.at' 3 _ rfl
      have k4 := hO2.at' 4 _ rfl
      have k5 := hO2.at' 5 _ rfl
      have k6 := hO2.at' 6 _ rfl
      have k7 := hO2.at' 7 _ rfl
      have k8 := hO2.at' 8 _ rfl
      have k9 := hO2.at' 9 _ rfl
      have k10 := hO2.at' 10 _ rfl
      have y0 := hO2.fz 0
      have y1 := hO2.fz 1
      have y2 := hO2.fz 2
      have y3 := hO2.fz 3
      have y4 := hO2.fz 4
      have y5 := hO2.fz 5
      have y6 := hO2.fz 6
      have y7 := hO2.fz 7
      have y8 := hO2.fz 8
      have y9 := hO2.fz 9
      have y10 := hO2.fz 10
      have q0 := hO2.other 8 (.int .u64 (stV R d.e)) (show w.heap.size ≠ w.heap.size + 1 by omega)
      have q1 := (((q0.set 0 (.int .i64 d.who)).set 1 (.int .i64 d.kd)).set 2 (.int .i64 d.e)).set 3 (.int .u64 d.x)
      have q2 := (((q1.set 4 (.int .i64 d.s)).set 5 (.int .i64 d.fr)).set 6 (.int .i64 d.till)).set 7 (.bool true)
      have hQ2 := ((q2.set 8 (.int .u64 (stV R d.e))).set 9 (.int .i64 0)).set 10 (.int .i64 0)
      clear q0 q1 q2
      have HQ := Lib.hid hQ2
      have HBQ := Lib.hid (below_set (below_set (below_set (below_set (below_set (below_set (below_set (below_set (below_set (below_set (below_set (below_set HB3.out (p := ⟨w.heap.size, 8, none⟩) (Nat.le_refl _) (.int .u64 (stV R d.e))) (p := ⟨w.heap.size + 1, 0, none⟩) (Nat.le_succ _) (.int .i64 d.who)) (p := ⟨w.heap.size + 1, 1, none⟩) (Nat.le_succ _) (.int .i64 d.kd)) (p := ⟨w.heap.size + 1, 2, none⟩) (Nat.le_succ _) (.int .i64 d.e)) (p := ⟨w.heap.size + 1, 3, none⟩) (Nat.le_succ _) (.int .u64 d.x)) (p := ⟨w.heap.size + 1, 4, none⟩) (Nat.le_succ _) (.int .i64 d.s)) (p := ⟨w.heap.size + 1, 5, none⟩) (Nat.le_succ _) (.int .i64 d.fr)) (p := ⟨w.heap.size + 1, 6, none⟩) (Nat.le_succ _) (.int .i64 d.till)) (p := ⟨w.heap.size + 1, 7, none⟩) (Nat.le_succ _) (.bool true)) (p := ⟨w.heap.size + 1, 8, none⟩) (Nat.le_succ _) (.int .u64 (stV R d.e))) (p := ⟨w.heap.size + 1, 9, none⟩) (Nat.le_succ _) (.int .i64 0)) (p := ⟨w.heap.size + 1, 10, none⟩) (Nat.le_succ _) (.int .i64 0))
      clear hO1 hO2 hb hD hQ2
      go_wp2_with fail
      refine (fun (h : ∀ W5, IsObj W5 (w.heap.size + 1) (Dd.list { d with ok := true, v := stV R d.e, lo := 0, hi := 0 }) → Below w.heap.size w W5 → bodyPost _ _ _ _ _ W5) => h _ HQ.out HBQ.out) ?_
      intro W5 hO5 hB5
      rw [HA.out]
      clear c0 c1 c2 c3 c4 c5 c6 c7 c8 c9 c10 k0 k1 k2 k3 k4 k5 k6 k7 k8 k9 k10
      have c0 := hO5.at' 0 _ rfl
      have c1 := hO5.at' 1 _ rfl
      have c2 := hO5.at' 2 _ rfl
      have c3 := hO5.at' 3 _ rfl
      have c4 := hO5.at' 4 _ rfl
      have c5 := hO5.at' 5 _ rfl
      have c6 := hO5.at' 6 _ rfl
      have c7 := hO5.at' 7 _ rfl
      have c8 := hO5.at' 8 _ rfl
      have c9 := hO5.at' 9 _ rfl
      have c10 := hO5.at' 10 _ rfl
      exact bodyPost_ret (v := Dd.val { d with ok := true, v := stV R d.e, lo := 0, hi := 0 }) (by simp [results, Try.results33, go_sem, c0, c1, c2, c3, c4, c5, c6, c7, c8, c9, c10]) rfl ⟨rfl, hB5⟩
    case neg =>
      have p1 : (d.kd == 1) = false := beq_false_of_ne hk
      have HA : Hid (dAns R d = { d with ok := true, v := 0, lo := 0, hi := 0 }) := by
        show _ = _
        unfold dAns
        rw [if_neg ht, if_neg (fun h => hk h.1)]
      clear ht hk he
      go_enter Try.func33, Try.ntmps33
      go_wp2_with fail
      rw [HA.out]
      exact bodyPost_ret (v := Dd.val { d with ok := true, v := 0, lo := 0, hi := 0 }) (by simp [results, Try.results33, go_sem]) rfl ⟨rfl, HB.out { d with ok := true, v := 0, lo := 0, hi := 0 }⟩

theorem own_cut {w : World} {base n c : Nat} {A : Option Addr} {e : TypeId} {xs : List Value} {x : Value} (h : w.ownsRow base e 1 (.slice A (n + 1) c) (n + 1) (xs ++ [x])) : w.ownsRow base e 1 (.slice A n c) n xs := by
  have hl := h.1
  rw [List.length_append, List.length_singleton] at hl
  rcases h.2 with ⟨hv, h0⟩ | ⟨g, cap, cur, hv, h1, h2, h3, h4, h5, h6⟩
  · omega
  · cases hv
    refine ⟨by omega, .inr ⟨g, c, cur, rfl, h1, h2, by omega, h4, h5, ?_⟩⟩
    have h7 := congrArg (List.take n) h6
    rw [List.take_take, List.take_left' (by omega)] at h7
    rw [Nat.mul_one, ← h7, show min n ((n + 1) * 1) = n by omega]
section
variable {W w W1 w4 : World} {bs : Nat} {a0 : Option Addr} {n cap0 sg i : Nat} {S : List Bool} {OV v' : Value} {O : List Nat} {X : List Thing}
theorem srl_push (hS : S.length = n) (hi : i < n) (hH : Hold W w (SrL W.heap.size bs a0 n cap0 sg S OV O ++ X)) (hb : Below w.heap.size w W1) (hG : Grew W1 w4 W.heap.size 3 1 OV v' (O.length + 1) (O.map (fun i : Nat => i64 (i : Int)) ++ [i64 i])) :
    Hold W ((w4.setCell ⟨sg, i, none⟩ (.bool true)).setCell ⟨bs, 2, none⟩ v') (SrL W.heap.size bs a0 n cap0 sg (S.set i true) v' (O ++ [i]) ++ X) ∧ w4.cell? ⟨sg, i, none⟩ = some (.bool (S.getD i false)) ∧ w4.frozen? ⟨sg, i, none⟩ = false ∧ w4.cell? ⟨bs, 2, none⟩ = some OV ∧ w4.frozen? ⟨bs, 2, none⟩ = false ∧ w4.cell? ⟨bs, 1, none⟩ = some (.slice (some ⟨sg, 0, none⟩) n n) := by
  have h1 := (hH.later hb).append 2 rfl rfl hG
  have hO : IsObj w4 bs [.slice a0 n cap0, .slice (some ⟨sg, 0, none⟩) n n, OV] := (h1.has 0 _ rfl).1
  have hB : w4.ownsRow W.heap.size 4 1 (.slice (some ⟨sg, 0, none⟩) n n) n (S.map Value.bool) := h1.has 1 _ rfl
  refine ⟨?_, row_bool hB hi, hB.frozenAt i, hO.at' 2 _ rfl, hO.fz 2, hO.at' 1 _ rfl⟩
  have h2 := (h1.stored 1 rfl i (.bool true)).setO 0 rfl 2 v'
  unfold SrL
  rw [List.map_set, List.map_append, List.length_append, List.length_singleton]
  exact h2
theorem srl_pop {A : Option Addr} {c : Nat} (hS : S.length = n) (hi : i < n) (hns : ¬ inS S i) (hH : Hold W w (SrL W.heap.size bs a0 n cap0 sg (S.set i true) (.slice A (O.length + 1) c) (O ++ [i]) ++ X)) :
    Hold W ((w.setCell ⟨sg, i, none⟩ (.bool false)).setCell ⟨bs, 2, none⟩ (.slice A O.length c)) (SrL W.heap.size bs a0 n cap0 sg S (.slice A O.length c) O ++ X) ∧ w.cell? ⟨sg, i, none⟩ = some (.bool ((S.set i true).getD i false)) ∧ w.frozen? ⟨sg, i, none⟩ = false ∧ w.frozen? ⟨bs, 2, none⟩ = false := by
  have hO : IsObj w bs [.slice a0 n cap0, .slice (some ⟨sg, 0, none⟩) n n, .slice A (O.length + 1) c] := (hH.has 0 _ rfl).1
  have hB : w.ownsRow W.heap.size 4 1 (.slice (some ⟨sg, 0, none⟩) n n) n ((S.set i true).map Value.bool) := hH.has 1 _ rfl
  have hR : w.ownsRow W.heap.size 3 1 (.slice A (O.length + 1) c) (O ++ [i]).length ((O ++ [i]).map (fun i : Nat => i64 (i : Int))) := hH.has 2 _ rfl
  refine ⟨?_, row_bool hB hi, hB.frozenAt i, hO.fz 2⟩
  rw [List.length_append, List.length_singleton, List.map_append] at hR
  have h0 := hH.turn 2 (A' := tRow W.heap.size 3 1 (.slice A O.length c) O.length (O.map (fun i : Nat => i64 (i : Int)))) rfl (Keep.refl _ _) (tRow_ok _ _ _ _ _ _) (own_cut hR) (fun q hq => .inl (by cases A with | none => exact hq | some A => exact hq))
  have h2 := (h0.stored 1 rfl i (.bool false)).setO 0 rfl 2 (.slice A O.length c)
  have e : ((S.set i true).map Value.bool).set i (.bool false) = S.map Value.bool := by rw [← List.map_set, inS_back (by omega) hns]
  rw [e] at h2
  exact h2
end

theorem own_later {w W1 : World} {base n : Nat} {e : TypeId} {v : Value} {xs : List Value} (h : w.ownsRow base e 1 v n xs) (hb : Below w.heap.size w W1) : W1.ownsRow base e 1 v n xs :=
  (Keep.of_below (T := fun _ => False) hb).row h (fun _ _ h => h)
theorem srci_new (W : World) (x : Int) (ty : TypeId) : Src (W.alloc (.cells #[.int .i64 x] ty)) 1 (some ⟨W.heap.size, 0, none⟩) 1 [i64 x] :=
  ⟨(fun h => by cases h), rfl, fun ad had j u hj => by
    cases had
    rw [addr_add', Nat.zero_add]
    have hj1 := (List.getElem?_eq_some_iff.1 hj).1
    obtain rfl : j = 0 := by simp at hj1; omega
    cases hj
    simp, one_int .i64 x⟩
theorem cnt_lt {S : List Bool} {i : Nat} (hi : i < S.length) (h : ¬ inS S i) : S.countP id < S.length := by
  rcases Nat.lt_or_ge (S.countP id) S.length with h1 | h1
  · exact h1
  · exfalso
    have h2 := List.countP_eq_length.1 (Nat.le_antisymm List.countP_le_length h1)
    refine h ?_
    unfold inS
    rw [List.getD_eq_getElem?_getD, List.getElem?_eq_getElem hi]
    exact h2 _ (List.getElem_mem hi)
theorem cnt_set {S : List Bool} {i : Nat} (hi : i < S.length) (h : ¬ inS S i) : (S.set i true).countP id = S.countP id + 1 := by
  have h2 : S[i] = false := by
    unfold inS at h
    rw [List.getD_eq_getElem?_getD, List.getElem?_eq_getElem hi] at h
    simpa using h
  rw [List.countP_set hi, h2]
  simp
theorem SrH.less {W w : World} {bs : Nat} {a0 : Option Addr} {n cap0 : Nat} {S : List Bool} {O : List Nat} {X Y : List Thing} (h : SrH W w bs a0 n cap0 S O (X ++ Y)) : SrH W w bs a0 n cap0 S O X := by
  obtain ⟨h1, sg, OV, h2⟩ := h
  refine ⟨h1, sg, OV, ?_⟩
  rw [← List.append_assoc] at h2
  exact h2.less

/-- What a search leaves. -/
def ExtTo (l : List Dd) (W w' : World) (r : Ending) (bs : Nat) (a0 : Option Addr) (n cap0 : Nat) (S : List Bool) (O : List Nat) (X : List Thing) (R : List Int) : Prop :=
  ∃ b S' O', r = .returned (.bool b) ∧ SrH W w' bs a0 n cap0 S' O' X ∧ (b = true → ∃ s, O' = O ++ s ∧ Lin l (inS S) R s) ∧ (b = false → S' = S ∧ O' = O ∧ ¬ ∃ s, Lin l (inS S) R s)
def ExtC (l : List Dd) (W : World) (a0 : Option Addr) (n cap0 m : Nat) : Prop :=
  ∀ (w : World) (bs : Nat) (S : List Bool) (O : List Nat) (a : Option Addr) (cap : Nat) (R : List Int) (X : List Thing) (q : Nat), O.length + m = n → S.countP id = O.length → R.length ≤ O.length → R.length ≤ cap → X[q]? = some (tU W.heap.size a R) → SrH W w bs a0 n cap0 S O X →
    Calls Try.prog 25 #[pt bs, .slice a R.length cap] w fun r w' => ExtTo l W w' r bs a0 n cap0 S O X R
/-- No order begins with it. -/
def NoB (l : List Dd) (S : List Bool) (R : List Int) (j : Nat) : Prop := ∀ (d : Dd) (r : List Int), l[j]? = some d → LFree l (inS S) j d → dDo R (dAns R d) = some r → ¬ ∃ s, Lin l (fun k => inS S k ∨ k = j) r s

set_option maxRecDepth 100000 in
set_option maxHeartbeats 8000000 in
theorem extend_any (l : List Dd) (W : World) (a0 : Option Addr) (n cap0 tb off : Nat) (hl : IsDds W a0 n cap0 tb off l) (hn : n ≤ 1000) (hs : ∀ d ∈ l, ¬ dBef d d) (he : ∀ d ∈ l, d.e = 0 ∨ d.e = 1) (m : Nat) : ExtC l W a0 n cap0 m := by
  induction m using Nat.strongRecOn with
  | _ m IH =>
  intro w bs S O a cap R X q hom hcnt hRO hcap hX h
  have HH := Lib.hid h
  have HL := Lib.hid hl
  have HI := Lib.hid IH
  have HS := Lib.hid hs
  have HE := Lib.hid he
  have HX := Lib.hid hX
  have HCN := Lib.hid hcnt
  have hcp := hl.2.1
  have HU : Hid (∀ w', SrH W w' bs a0 n cap0 S O X → IsU w' a R) := fun w' hw => by
    obtain ⟨_, sg, OV, h2⟩ := hw
    exact (h2.has (q + 3) _ (show (SrL W.heap.size bs a0 n cap0 sg S OV O ++ X)[q + 3]? = _ from HX.out)).1
  clear h hl IH hs he hX hcnt
  by_cases hw : ∀ (i : Nat) (d : Dd), l[i]? = some d → 0 ≤ d.till → inS S i
  case pos =>
    have HW := Lib.hid hw
    clear hw
    go_enter Try.func25, Try.ntmps25
    go_wp2_with fail
    refine (whole_any W w bs a0 n cap0 tb off l S O X true HH.out HL.out (by omega) ⟨fun _ => HW.out, fun _ => rfl⟩).mono ?_
    rintro r w1 ⟨rfl, hb⟩
    have HH1 := Lib.hid (HH.out.later hb)
    clear hb
    go_wp2_with fail
    go_ret
    exact ⟨true, S, O, rfl, HH1.out, fun _ => ⟨[], by simp, .nil HW.out⟩, fun h => Bool.noConfusion h⟩
  case neg =>
    have HW := Lib.hid hw
    clear hw
    go_enter Try.func25, Try.ntmps25
    go_wp2_with fail
    refine (whole_any W w bs a0 n cap0 tb off l S O X false HH.out HL.out (by omega) ⟨fun h => Bool.noConfusion h, fun h => absurd h HW.out⟩).mono ?_
    rintro r w1 ⟨rfl, hb⟩
    have HH1 := Lib.hid (HH.out.later hb)
    obtain ⟨sg1, OV1, c0, c1, c2, hbits⟩ := HH1.out.at'
    clear hb c1 c2 hbits HH
    go_wp2_with fail
    clear c0
    go_loopw [16] (fun iw wr => ∃ i : Nat, i ≤ n ∧ iw = .int .i64 i ∧ Hid (SrH W wr bs a0 n cap0 S O X) ∧ Hid (∀ j, j < i → NoB l S R j)) (fun iw _ => n - (RowKit.intOf iw).toNat)
    case atStart => exact ⟨0, Nat.zero_le _, rfl, HH1, fun j hj => absurd hj (Nat.not_lt_zero _)⟩
    case round =>
      clear HH1
      obtain ⟨i, hi, rfl, HH, HP⟩ := hrel
      rcases Nat.lt_or_ge i n with hil | hil
      · have hil' : (i : Int) < (n : Int) := by omega
        obtain ⟨d, hd⟩ : ∃ d, l[i]? = some d := ⟨_, List.getElem?_eq_getElem (by rw [HL.out.1]; exact hil)⟩
        obtain ⟨rfl, htb⟩ := HL.out.2.2.1 (by omega)
        obtain ⟨d0, d1, d2, d3, d4, d5, d6, d7, d8, d9, d10⟩ := ((HL.out.later HH.out.below (fun _ => htb)).2.2.2 i d hd).1
        have HHN := Lib.hid (HH.out.later (below_new (Below.refl _ _) (d.obj 38)))
        have HDB := Lib.hid (AtBd.made wr d 38)
        have HD := Lib.hid hd
        have hde := HE.out d (List.mem_of_getElem? hd)
        have HDE := Lib.hid hde
        have hdb := HS.out d (List.mem_of_getElem? hd)
        have HDS := Lib.hid hdb
        clear hd hde hdb
        by_cases hf : LFree l (inS S) i d
        case neg =>
          have HF := Lib.hid hf
          clear hf
          go_wp2_with fail
          refine (ready_any W _ bs _ n cap0 tb off l S O X i d false HHN.out HL.out (by omega) HD.out HDS.out ⟨fun h => Bool.noConfusion h, fun h => absurd h HF.out⟩).mono ?_
          rintro r w2 ⟨rfl, hb2⟩
          have HH2 := Lib.hid (HHN.out.later hb2)
          clear hb2 HH HHN d0 d1 d2 d3 d4 d5 d6 d7 d8 d9 d10
          go_wp2_with fail
          go_roundw
          case rel =>
            refine ⟨i + 1, by omega, by go_num, HH2, fun j hj => ?_⟩
            rcases (by omega : j < i ∨ j = i) with hj | rfl
            · exact HP.out j hj
            · intro e r he hf
              rw [HD.out] at he
              cases he
              exact absurd hf HF.out
          case measure => first | omega | (simp [RowKit.intOf]; done) | (simp [RowKit.intOf]; omega)
        case pos =>
          have HF := Lib.hid hf
          clear hf
          go_wp2_with fail
          refine (ready_any W _ bs _ n cap0 tb off l S O X i d true HHN.out HL.out (by omega) HD.out HDS.out ⟨fun _ => HF.out, fun _ => rfl⟩).mono ?_
          rintro r w2 ⟨rfl, hb2⟩
          have HH2 := Lib.hid (HHN.out.later hb2)
          have HDB2 := Lib.hid (HDB.out.later hb2)
          clear hb2 HH HHN d0 d1 d2 d3 d4 d5 d6 d7 d8 d9 d10 HDB
          generalize wr.heap.size = B at HDB2 ⊢
          obtain ⟨d0, d1, d2, d3, d4, d5, d6, d7, d8, d9, d10⟩ := HDB2.out
          go_wp2_with fail
          refine (answered_any _ a cap R d (HU.out _ HH2.out) hcap (by omega) HDE.out).mono ?_
          rintro r w3 ⟨rfl, hb3⟩
          have HH3 := Lib.hid (HH2.out.later hb3)
          clear hb3 HH2 d0 d1 d2 d3 d4 d5 d6 d7 d8 d9 d10
          obtain ⟨dA, hdA⟩ : ∃ dA, dAns R d = dA := ⟨_, rfl⟩
          have HDA := Lib.hid hdA
          rw [hdA]
          clear hdA
          go_wp2_with fail
          refine (do_any _ a cap R dA (HU.out _ HH3.out) hcap (by omega)).mono ?_
          rintro r w4 ⟨hb4, a', n', c', ok, rfl, h1, h2⟩
          have HH4 := Lib.hid (HH3.out.later hb4)
          cases hdo : dDo R dA
          case none =>
            obtain rfl := h2 hdo
            have HO := Lib.hid hdo
            clear h1 h2 hb4 HH3 hdo
            go_wp2_with fail
            go_roundw
            case rel =>
              refine ⟨i + 1, by omega, by go_num, HH4, fun j hj => ?_⟩
              rcases (by omega : j < i ∨ j = i) with hj | rfl
              · exact HP.out j hj
              · intro e r he hf hr
                rw [HD.out] at he
                cases he
                rw [HDA.out, HO.out] at hr
                cases hr
            case measure => first | omega | (simp [RowKit.intOf]; done) | (simp [RowKit.intOf]; omega)
          case some R' =>
            obtain ⟨rfl, rfl, hnc, hU', hfr⟩ := h1 R' hdo
            have HO := Lib.hid hdo
            have hRl := dDo_len hdo
            have hW3 := HH3.out.below.size
            obtain ⟨hSl, sg, OV, hHold⟩ := HH3.out
            have hNew := hHold.more hb4 (tU_ok W.heap.size a' R') ⟨hU', fun hp k off hk => Nat.le_trans hW3 (hfr k off hk)⟩ (fun k hk => hfr k _ hk.2.choose_spec)
            rw [List.append_assoc] at hNew
            have HNEW := Lib.hid hNew
            have hO : IsObj w4 bs [.slice (some ⟨tb, off, none⟩) n cap0, .slice (some ⟨sg, 0, none⟩) n n, OV] := (hNew.has 0 _ rfl).1
            have hR : w4.ownsRow W.heap.size 3 1 OV O.length (O.map (fun i : Nat => i64 (i : Int))) := hNew.has 2 _ rfl
            obtain ⟨A, c, rfl⟩ := own_shape hR
            have HR := Lib.hid hR
            have c1 := hO.at' 1 _ rfl
            have c2 := hO.at' 2 _ rfl
            have HSL := Lib.hid hSl
            have hne1 : ¬ bs = sg := fun e => hNew.apart 0 1 _ _ rfl rfl (by decide) bs rfl (by show some sg = some bs; rw [e])
            have hne2 : ¬ sg = bs := fun e => hne1 e.symm
            have s4 : bs < w4.heap.size := hO.lt
            have hlt := cnt_lt (by omega) HF.out.1
            have hcs := cnt_set (by omega) HF.out.1
            have hrec : O.length + 1 ≤ n ∧ (S.set i true).countP id = O.length + 1 := by have := HCN.out; omega
            have HREC := Lib.hid hrec
            have hW4 : W.heap.size ≤ w4.heap.size := hNew.size
            have hOn : O.length ≤ 1000 := by omega
            have HRL : Hid (R'.length ≤ O.length + 1) := by show _ ≤ _; omega
            clear hNew hO hR hSl hlt hcs hrec hHold hU' hfr h1 h2 hb4 HH3 HH4 hdo hRl hW3
            go_wp2_with fail
            go_cut [] (fun wx => Hid (SrH W wx bs (some ⟨tb, off, none⟩) n cap0 (S.set i true) (O ++ [i]) (X ++ [tU W.heap.size a' R'])))
            case first =>
              go_region_law (refine step_append_grew rfl _ _ 43 rfl W.heap.size 3 _ 1 8 elem_i64 (.slice A O.length c) O.length (O.map (fun i : Nat => i64 (i : Int))) rfl ?_ (some ⟨_, 0, none⟩) 1 1 [i64 i] rfl ?_ (by unfold maxLen; omega) (by omega) ?_ ?_; (focus exact own_later HR.out (by repeat (first | exact Below.refl _ _ | refine below_new ?_ _ | refine Below.drew ?_))); (focus (first | exact srci_new _ _ _ | exact src_later (srci_new _ _ _) (Below.refl _ _).drew)); (focus (simp; omega)); intro v5 w5 hG; obtain ⟨A5, c5, rfl⟩ := own_shape hG.own; obtain ⟨hN5, g1, g2, g3, g4, g5⟩ := srl_push HSL.out hil HNEW.out (by repeat (first | exact Below.refl _ _ | refine below_new ?_ _ | refine Below.drew ?_)) hG; replace hN5 := Lib.hid hN5; clear hG)
              all_goals
                go_wp2_with fail
                go_meet
                exact ⟨by rw [List.length_set]; exact HSL.out, sg, _, hN5.out⟩
            case rest =>
              have HN6 : Hid (SrH W _ bs (some ⟨tb, off, none⟩) n cap0 (S.set i true) (O ++ [i]) (X ++ [tU W.heap.size a' R'])) := hcut
              clear hcut c1 c2 HR HNEW
              go_wp2_with fail
              refine (HI.out (m - 1) (by have := HREC.out; omega) _ bs (S.set i true) (O ++ [i]) a' c' R' (X ++ [tU W.heap.size a' R']) X.length (by have := HREC.out; rw [List.length_append, List.length_singleton]; omega) (by rw [HREC.out.2, List.length_append, List.length_singleton]) (by rw [List.length_append, List.length_singleton]; exact HRL.out) hnc (by rw [List.getElem?_append_right (Nat.le_refl _), Nat.sub_self]; rfl) HN6.out).mono ?_
              rintro r w7 ⟨b7, S7, O7, rfl, h7, h8, h9⟩
              have H7 := Lib.hid h7
              have H8 := Lib.hid h8
              have H9 := Lib.hid h9
              clear h7 h8 h9 HN6
              cases b7
              case true =>
                go_wp2_with fail
                go_ret
                obtain ⟨s, hs1, hs2⟩ := H8.out (by first | exact rfl | trivial)
                exact ⟨true, S7, O7, rfl, H7.out.less, fun _ => ⟨i :: s, by rw [hs1, List.append_assoc]; rfl, .cons HD.out HF.out (by rw [HDA.out]; exact HO.out) (hs2.same (fun k => inS_set (by rw [HSL.out]; exact hil) k))⟩, fun h => Bool.noConfusion h⟩
              case false =>
                obtain ⟨rfl, rfl, hno⟩ := H9.out (by first | exact rfl | trivial)
                have HNO := Lib.hid hno
                obtain ⟨_, sg7, OV7, hh7⟩ := H7.out.less
                have hO7 : IsObj w7 bs [.slice (some ⟨tb, off, none⟩) n cap0, .slice (some ⟨sg7, 0, none⟩) n n, OV7] := (hh7.has 0 _ rfl).1
                have hR7 : w7.ownsRow W.heap.size 3 1 OV7 (O ++ [i]).length ((O ++ [i]).map (fun i : Nat => i64 (i : Int))) := hh7.has 2 _ rfl
                rw [List.length_append, List.length_singleton] at hR7
                obtain ⟨A7, k7, rfl⟩ := own_shape hR7
                obtain ⟨p1, p2, p3, p4⟩ := srl_pop HSL.out hil HF.out.1 hh7
                have HP1 := Lib.hid p1
                have hne3 : ¬ bs = sg7 := fun e => hh7.apart 0 1 _ _ rfl rfl (by decide) bs rfl (by show some sg7 = some bs; rw [e])
                have hne4 : ¬ sg7 = bs := fun e => hne3 e.symm
                have c1 := hO7.at' 1 _ rfl
                have c2 := hO7.at' 2 _ rfl
                have hk7 : O.length + 1 ≤ k7 := by
                  rcases hR7.2 with ⟨hv, h0⟩ | ⟨g, cap', cur, hv, _, _, hc, _⟩
                  · omega
                  · cases hv
                    exact hc
                have q7 : (O.length : Int) ≤ (k7 : Int) := by omega
                have hwr : IntKind.i64.wrap (O.length : Int) = (O.length : Int) := IntWalk.i64_in _ (by omega)
                clear hno hO7 hR7 hh7 p1 H7 H8 H9
                go_wp2_with fail
                go_region_law (fail)
                all_goals
                  go_wp2_with fail
                  go_roundw
                  case rel =>
                    refine ⟨i + 1, by omega, by go_num, ⟨HSL.out, sg7, _, by first | exact HP1.out | exact HP1.out.drew⟩, fun j hj => ?_⟩
                    rcases (by omega : j < i ∨ j = i) with hj | rfl
                    · exact HP.out j hj
                    · intro e r he hf hr hh
                      rw [HD.out] at he
                      cases he
                      rw [HDA.out, HO.out] at hr
                      cases hr
                      obtain ⟨s, hs⟩ := hh
                      exact HNO.out ⟨s, hs.same (fun k => (inS_set (by rw [HSL.out]; exact hil) k).symm)⟩
                  case measure => first | omega | (simp [RowKit.intOf]; done) | (simp [RowKit.intOf]; omega)
      · obtain rfl : i = n := by omega
        have hnl : ¬ (i : Int) < (i : Int) := by omega
        go_wp2_with fail
        go_ret
        refine ⟨false, S, O, rfl, HH.out, fun h => Bool.noConfusion h, fun _ => ⟨rfl, rfl, fun hh => ?_⟩⟩
        rcases lin_iff.1 hh with h | ⟨j, e, r, h1, h2, h3, h4⟩
        · exact HW.out h
        · exact HP.out j (by have := (List.getElem?_eq_some_iff.1 h1).1; have := HL.out.1; omega) e r h1 h2 h3 h4
theorem made_bools (n : Nat) : (madeCells (Value.bool false).cells (n * 1)).toList = (List.replicate n false).map Value.bool := by
  rw [Nat.mul_one, List.map_replicate]
  exact toList_madeCells_one (.bool false) n
theorem find_made (w w1 : World) (a0 : Option Addr) (n cap0 : Nat) (T : TypeId) (hown : w1.ownsRow w.heap.size 4 1 (.slice (some ⟨w.heap.size, 0, none⟩) n n) n (madeCells (Value.bool false).cells (n * 1)).toList) (hg : w.grownBy w1 none) :
    SrH w (w1.alloc (.cells #[.slice a0 n cap0, .slice (some ⟨w.heap.size, 0, none⟩) n n, .slice none 0 0] T)) w1.heap.size a0 n cap0 (List.replicate n false) [] [tU w.heap.size none []] := by
  have hb1 : Below w.heap.size w w1 := (Below.refl _ _).grown hg (Nat.le_refl _) (fun k hk => by cases hk)
  rw [made_bools] at hown
  have h1 : Hold w w1 [tRow w.heap.size 4 1 (.slice (some ⟨w.heap.size, 0, none⟩) n n) n ((List.replicate n false).map Value.bool)] :=
    (Hold.nil (Below.refl _ _)).more hb1 (tRow_ok _ _ _ _ _ _) hown (fun q hq => by cases hq; exact Nat.le_refl _)
  have h2 := h1.more (A := tObj w.heap.size w1.heap.size [.slice a0 n cap0, .slice (some ⟨w.heap.size, 0, none⟩) n n, .slice none 0 0]) (below_new (Below.refl _ _) (.cells #[.slice a0 n cap0, .slice (some ⟨w.heap.size, 0, none⟩) n n, .slice none 0 0] T)) (tObj_ok _ _ _) ⟨IsObj.made w1 _ T, hb1.size⟩ (fun q hq => by cases hq; exact Nat.le_refl _)
  have h3 := h2.more (A := tRow w.heap.size 3 1 (.slice none 0 0) 0 []) (Below.refl _ _) (tRow_ok _ _ _ _ _ _) ⟨rfl, .inl ⟨rfl, rfl⟩⟩ (fun q hq => by cases hq)
  have h4 := h3.more (A := tU w.heap.size none []) (Below.refl _ _) (tU_ok _ _ _) ⟨IsU.nil _ _, fun hp => absurd hp (by simp)⟩ (fun q hq => absurd hq.1 (by simp))
  refine ⟨List.length_replicate, w.heap.size, .slice none 0 0, ?_⟩
  refine Hold.pick h4 (fun i => if i = 0 then 1 else if i = 1 then 0 else i) (fun i A hA => ?_) (fun i j hi hj e => ?_)
  · rcases i with _ | _ | _ | _ | i
    · exact hA
    · exact hA
    · exact hA
    · exact hA
    · simp [SrL] at hA
  · simp only [SrL, List.length_cons, List.length_nil, List.length_append] at hi hj
    rcases (by omega : i = 0 ∨ i = 1 ∨ i = 2 ∨ i = 3) with rfl | rfl | rfl | rfl <;> rcases (by omega : j = 0 ∨ j = 1 ∨ j = 2 ∨ j = 3) with rfl | rfl | rfl | rfl <;> simp at e ⊢

set_option maxHeartbeats 4000000 in
theorem find_any (w : World) (a0 : Option Addr) (n cap0 tb off : Nat) (l : List Dd) (hl : IsDds w a0 n cap0 tb off l) (hs : ∀ d ∈ l, ¬ dBef d d) (he : ∀ d ∈ l, d.e = 0 ∨ d.e = 1) (hn : n ≤ 100000) :
    Calls Try.prog 18 #[.slice a0 n cap0] w fun r w' => Below w.heap.size w w' ∧ ((∃ A c O, n ≤ 9 ∧ r = .returned (.tuple #[.slice A O.length c, .bool true]) ∧ w'.ownsRow w.heap.size 3 1 (.slice A O.length c) O.length (O.map (fun i : Nat => i64 (i : Int))) ∧ Lin l (fun _ => False) [] O) ∨
      (r = .returned (.tuple #[.slice none 0 0, .bool false]) ∧ (9 < n ∨ ¬ ∃ s, Lin l (fun _ => False) [] s))) := by
  have HL := Lib.hid hl
  have HS := Lib.hid hs
  have HE := Lib.hid he
  have hcp := hl.2.1
  clear hl hs he
  rcases Nat.lt_or_ge 9 n with h9 | h9
  case inl =>
    have q1 : (9 : Int) < (n : Int) := by omega
    go_enter Try.func18, Try.ntmps18
    go_wp2_with fail
    go_ret2
    exact ⟨Below.refl _ _, .inr ⟨rfl, .inl h9⟩⟩
  case inr =>
    have q1 : decide ((9 : Int) < (n : Int)) = false := decide_eq_false (by omega)
    obtain ⟨i, hi, hz0, hz1, hz2⟩ := elem_bool.info
    go_enter Try.func18, Try.ntmps18
    go_wp2_with (refine wpList_make_full _ rfl _ _ 57 rfl w.heap.size 4 i (.bool false) 1 elem_bool.und hi hz0 hz1 .i64 .i64 _ _ n rfl rfl rfl rfl (by rw [hz2]; omega) (by unfold maxLen; omega) (Nat.le_refl _) ?_; intro w1 hown hgrow)
    have HM := Lib.hid (find_made w w1 a0 n cap0 59 hown hgrow)
    clear hown hgrow
    have hns : ∀ k, ¬ inS (List.replicate n false) k := fun k h => by
      unfold inS at h
      rw [List.getD_eq_getElem?_getD, List.getElem?_replicate] at h
      split at h <;> simp at h
    have HNS := Lib.hid hns
    clear hns
    refine (extend_any l w a0 n cap0 tb off HL.out (by omega) HS.out HE.out n _ w1.heap.size (List.replicate n false) [] none 0 [] [tU w.heap.size none []] 0 (by simp) (by rw [List.countP_replicate]; rfl) (Nat.le_refl _) (Nat.le_refl _) rfl HM.out).mono ?_
    rintro r w2 ⟨b2, S2, O2, rfl, h2, h3, h4⟩
    have HB2 := Lib.hid h2.below
    obtain ⟨_, sg, OV, hh⟩ := h2
    have hO : IsObj w2 w1.heap.size [.slice a0 n cap0, .slice (some ⟨sg, 0, none⟩) n n, OV] := (hh.has 0 _ rfl).1
    have hR : w2.ownsRow w.heap.size 3 1 OV O2.length (O2.map (fun i : Nat => i64 (i : Int))) := hh.has 2 _ rfl
    obtain ⟨A, c, rfl⟩ := own_shape hR
    have HR := Lib.hid hR
    have c2 := hO.at' 2 _ rfl
    have H3 := Lib.hid h3
    have H4 := Lib.hid h4
    clear hh hO hR h3 h4 HM
    cases b2
    case true =>
      go_wp2_with fail
      go_ret2
      obtain ⟨s, hs1, hs2⟩ := H3.out (by first | exact rfl | trivial)
      rw [List.nil_append] at hs1
      subst hs1
      exact ⟨HB2.out, .inl ⟨A, c, O2, h9, rfl, HR.out, hs2.same (fun k => ⟨fun h => HNS.out k h, False.elim⟩)⟩⟩
    case false =>
      go_wp2_with fail
      go_ret2
      exact ⟨HB2.out, .inr ⟨rfl, .inr (fun ⟨s, hs⟩ => (H4.out (by first | exact rfl | trivial)).2.2 ⟨s, hs.same (fun k => ⟨False.elim, fun h => HNS.out k h⟩)⟩)⟩⟩
end Go.Proofs.Ytgoncakjkippkab
