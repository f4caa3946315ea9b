/-
  Rows of bytes and of moves, as they lie; the contract of Encode. No condition but that values are numbers of 64 bits, and that there are no more than 70000 moves.
-/
import Derived.Test.YtebgjfhaolgcjaaCodeWrite
namespace Go.Proofs.Ytebgjfhaolgcjaa
open Go.RowKit
set_option linter.unusedVariables false

/-- Cells that lie one behind the other. -/
def IsAt (w : World) (A : Option Addr) (xs : List Value) : Prop :=
  0 < xs.length → ∃ b off, A = some ⟨b, off, none⟩ ∧ b < w.heap.size ∧ ∀ j u, xs[j]? = some u → w.cell? ⟨b, off + j, none⟩ = some u
section
variable {w w' : World} {A : Option Addr} {xs ys : List Value}
theorem IsAt.later (h : IsAt w A xs) (e : Below w.heap.size w w') : IsAt w' A xs := fun hp => by
  obtain ⟨b, off, h1, h2, h3⟩ := h hp
  exact ⟨b, off, h1, Nat.lt_of_lt_of_le h2 e.size, fun j u hj => (e.cell (p := ⟨b, off + j, none⟩) h2).trans (h3 j u hj)⟩
theorem IsAt.nil (w : World) (A : Option Addr) : IsAt w A [] := fun h => absurd h (by simp)
theorem IsAt.left (h : IsAt w A (xs ++ ys)) : IsAt w A xs := fun hp => by
  obtain ⟨b, off, h1, h2, h3⟩ := h (by rw [List.length_append]; omega)
  exact ⟨b, off, h1, h2, fun j u hj => h3 j u (by rw [List.getElem?_append_left (List.getElem?_eq_some_iff.1 hj).1]; exact hj)⟩
theorem IsAt.own {base : Nat} {e : TypeId} {sz n cap : Nat} (h : w.ownsRow base e sz (.slice A n cap) n xs) : IsAt w A xs := fun hp => by
  rcases h.2 with ⟨hv, h0⟩ | ⟨g, cap', cur, hv, hb, hh, hc, _⟩
  · have := h.1
    rw [h0, Nat.zero_mul] at this
    omega
  · cases hv
    refine ⟨g, 0, rfl, (h.lt g rfl).2, fun j u hj => ?_⟩
    rw [Nat.zero_add, h.cellAt j (by have := (List.getElem?_eq_some_iff.1 hj).1; have := h.1; omega)]
    exact hj
theorem IsAt.src {n sz : Nat} (h : IsAt w A xs) (hl : xs.length = n * sz) (hs : 0 < sz) (h1 : ∀ u ∈ xs, u.oneCell' = true) : Src w sz A n xs := by
  refine ⟨fun hA => ?_, hl, fun ad had j u hj => ?_, h1⟩
  · rcases Nat.eq_zero_or_pos n with h0 | h0
    · exact h0
    · obtain ⟨b, off, h2, _⟩ := h (by rw [hl]; exact Nat.mul_pos h0 hs)
      rw [hA] at h2
      cases h2
  · obtain ⟨b, off, h2, _, h4⟩ := h (by have := (List.getElem?_eq_some_iff.1 hj).1; omega)
    rw [had] at h2
    cases h2
    rw [addr_add']
    exact h4 j u hj
end

/-- Moves, cell by cell. -/
def flatM : List CM → List Value
  | [] => []
  | m :: l => m.list ++ flatM l
theorem flatM_append : ∀ a b : List CM, flatM (a ++ b) = flatM a ++ flatM b
  | [], _ => rfl
  | m :: a, b => by simp [flatM, flatM_append a b]
theorem flatM_length : ∀ l : List CM, (flatM l).length = l.length * 7
  | [] => rfl
  | m :: l => by simp only [flatM, List.length_append, List.length_cons, flatM_length l, CM.list, List.length_nil]; omega
theorem CM.one (m : CM) (u : Value) (h : u ∈ m.list) : u.oneCell' = true := by
  simp only [CM.list, List.mem_cons, List.not_mem_nil, or_false] at h
  rcases h with rfl | rfl | rfl | rfl | rfl | rfl | rfl <;> rfl
theorem flatM_one : ∀ (l : List CM) (u : Value), u ∈ flatM l → u.oneCell' = true
  | [], _, h => by cases h
  | m :: l, u, h => by
    rw [flatM, List.mem_append] at h
    rcases h with h | h
    · exact m.one u h
    · exact flatM_one l u h
theorem flatM_at : ∀ {l : List CM} {i j : Nat} {m : CM}, l[i]? = some m → j < 7 → (flatM l)[i * 7 + j]? = m.list[j]?
  | [], i, j, m, h, hj => by simp at h
  | e :: l, 0, j, m, h, hj => by
    cases h
    rw [flatM, Nat.zero_mul, Nat.zero_add, List.getElem?_append_left (by exact hj)]
  | e :: l, i + 1, j, m, h, hj => by
    rw [List.getElem?_cons_succ] at h
    rw [flatM, List.getElem?_append_right (by show 7 ≤ _; omega), show (i + 1) * 7 + j - e.list.length = i * 7 + j by show (i + 1) * 7 + j - 7 = _; omega]
    exact flatM_at h hj
theorem elem_cm : ElemAt Try.prog 26 37 (.agg #[.int .i64 0, .int .i64 0, .int .i64 0, .int .i64 0, .int .u64 0, .int .i64 0, .int .i64 0]) 7 56 :=
  ElemAt.mk' Try.underlying26 (by kernel_rfl) rfl (by decide)
/-- A move that lies somewhere. -/
structure AtCM (w : World) (b o : Nat) (m : CM) : Prop where
  c0 : w.cell? ⟨b, o, none⟩ = some (i64 m.k)
  c1 : w.cell? ⟨b, o + 1, none⟩ = some (i64 m.who)
  c2 : w.cell? ⟨b, o + 2, none⟩ = some (i64 m.ck)
  c3 : w.cell? ⟨b, o + 3, none⟩ = some (i64 m.ce)
  c4 : w.cell? ⟨b, o + 4, none⟩ = some (u64 m.v)
  c5 : w.cell? ⟨b, o + 5, none⟩ = some (i64 m.st)
  c6 : w.cell? ⟨b, o + 6, none⟩ = some (i64 m.n)
theorem IsAt.move {w : World} {A : Option Addr} {ms : List CM} (h : IsAt w A (flatM ms)) {i : Nat} {m : CM} (hi : ms[i]? = some m) : ∃ b off, A = some ⟨b, off, none⟩ ∧ b < w.heap.size ∧ AtCM w b (off + i * 7) m := by
  have hil := (List.getElem?_eq_some_iff.1 hi).1
  obtain ⟨b, off, h1, h2, h3⟩ := h (by rw [flatM_length]; omega)
  have key : ∀ j u, j < 7 → m.list[j]? = some u → w.cell? ⟨b, off + i * 7 + j, none⟩ = some u := fun j u hj hu => by
    have := h3 (i * 7 + j) u (by rw [flatM_at hi hj]; exact hu)
    rw [← Nat.add_assoc] at this
    exact this
  exact ⟨b, off, h1, h2, key 0 _ (by decide) rfl, key 1 _ (by decide) rfl, key 2 _ (by decide) rfl, key 3 _ (by decide) rfl, key 4 _ (by decide) rfl, key 5 _ (by decide) rfl, key 6 _ (by decide) rfl⟩

theorem cright_at (t s so d : Int) (b : Bool) (hb : rightC t s so d = b) (w : World) :
    Calls Try.prog 8 #[cf t s so d] w fun r w' => r = .returned (.bool b) ∧ Below w.heap.size w w' := hb ▸ cright_any t s so d w
/-- What Encode answers. -/
inductive EncIs (w' : World) (base : Nat) (t s so d : Int) (ms : List CM) : Value → Int → Prop
  | conf (h : rightC t s so d = false) : EncIs w' base t s so d ms (.slice none 0 0) 1
  | many (h : rightC t s so d = true) (hn : 65536 < ms.length) : EncIs w' base t s so d ms (.slice none 0 0) 7
  | arg (h : rightC t s so d = true) (hn : ms.length ≤ 65536) (hm : ∃ m ∈ ms, ¬ m.Right) : EncIs w' base t s so d ms (.slice none 0 0) 1
  | ok (h : rightC t s so d = true) (hn : ms.length ≤ 65536) (hm : ∀ m ∈ ms, m.Right) (v : Value) (ho : Own8 w' base v ([t, s, so, d] ++ encs ms)) : EncIs w' base t s so d ms v 0

theorem row8_made (w : World) (base : Nat) (L : List Int) (hb : base ≤ w.heap.size) (hL : L.length ≤ maxLen) : Own8 (w.alloc (.cells (L.map u8).toArray 5)) base (.slice (some ⟨w.heap.size, 0, none⟩) L.length L.length) L :=
  ⟨by rw [List.length_map]; omega, .inr ⟨w.heap.size, L.length, (L.map u8).toArray, rfl, hb, heap_alloc_new w _, Nat.le_refl _, hL, by simp, by
    rw [Nat.mul_one]
    exact List.take_of_length_le (by simp)⟩⟩

set_option maxRecDepth 100000 in
set_option maxHeartbeats 8000000 in
theorem encode_any (t s so d : Int) (A : Option Addr) (cap : Nat) (ms : List CM) (w : World) (h : IsAt w A (flatM ms)) (hf : ∀ m ∈ ms, m.Fit) (hn : ms.length ≤ 70000) :
    Calls Try.prog 5 #[.agg #[.int .i64 t, .int .i64 s, .int .i64 so, .int .i64 d, .slice A ms.length cap]] w fun r w' => ∃ v e, r = .returned (.tuple #[v, i64 e]) ∧ Below w.heap.size w w' ∧ EncIs w' w.heap.size t s so d ms v e := by
  have HB0 := Lib.hid (below_new (below_new (Below.refl w.heap.size w) (.cells #[.int .i64 t, .int .i64 s, .int .i64 so, .int .i64 d, .slice A ms.length cap] 28)) (.cells #[.int .i64 t, .int .i64 s, .int .i64 so, .int .i64 d] 25))
  have H := Lib.hid h
  have HF := Lib.hid hf
  clear h hf
  rcases Bool.eq_false_or_eq_true (rightC t s so d) with hr | hr
  case inr =>
    have HR := Lib.hid hr
    clear hr
    go_enter Try.func5, Try.ntmps5
    go_wp2_with fail
    refine (cright_at t s so d false HR.out _).mono ?_
    rintro r w2 ⟨rfl, hb⟩
    have HB := Lib.hid (below_step HB0.out hb)
    clear HB0 hb
    go_wp2_with fail
    go_ret2
    exact ⟨_, _, rfl, HB.out, .conf HR.out⟩
  have HR := Lib.hid hr
  have HX := Lib.hid (of_decide_eq_true hr)
  clear hr
  have HAC := Lib.hid (IsObj.made (w.alloc (.cells #[.int .i64 t, .int .i64 s, .int .i64 so, .int .i64 d, .slice A ms.length cap] 28)) [.int .i64 t, .int .i64 s, .int .i64 so, .int .i64 d] 25)
  have HOB := Lib.hid ((IsObj.made w [.int .i64 t, .int .i64 s, .int .i64 so, .int .i64 d, .slice A ms.length cap] 28).later (below_new (Below.refl _ _) (.cells #[.int .i64 t, .int .i64 s, .int .i64 so, .int .i64 d] 25)))
  have hcb : (w.alloc (.cells #[.int .i64 t, .int .i64 s, .int .i64 so, .int .i64 d, .slice A ms.length cap] 28)).heap.size = w.heap.size + 1 := by simp
  rw [hcb] at HAC
  clear hcb
  rcases Nat.lt_or_ge 65536 ms.length with hbig | hsm
  · have hbig' : (65536 : Int) < (ms.length : Int) := by omega
    go_enter Try.func5, Try.ntmps5
    go_wp2_with fail
    refine (cright_at t s so d true HR.out _).mono ?_
    rintro r w2 ⟨rfl, hb⟩
    have HB := Lib.hid (below_step HB0.out hb)
    have HO := Lib.hid (HOB.out.later hb)
    clear HB0 hb HAC HOB
    have c4 := HO.out.at' 4 _ rfl
    go_wp2_with fail
    go_ret2
    exact ⟨_, _, rfl, HB.out, .many HR.out hbig⟩
  have hsm' : ¬ (65536 : Int) < (ms.length : Int) := by omega
  go_enter Try.func5, Try.ntmps5
  go_wp2_with fail
  refine (cright_at t s so d true HR.out _).mono ?_
  rintro r w2 ⟨rfl, hb⟩
  have HB := Lib.hid (below_step HB0.out hb)
  have HO := Lib.hid (HOB.out.later hb)
  have HA := Lib.hid (HAC.out.later hb)
  clear HB0 hb HAC HOB
  have c4 := HO.out.at' 4 _ rfl
  have d0 := HA.out.at' 0 _ rfl
  have d1 := HA.out.at' 1 _ rfl
  have d2 := HA.out.at' 2 _ rfl
  have d3 := HA.out.at' 3 _ rfl
  have e4 := HO.out.lt
  have HX1 := HX.out
  have HR0 := Lib.hid (row8_made w2 w.heap.size [t, s, so, d] HB.out.size (by show 4 ≤ maxLen; unfold maxLen; decide))
  have hm1 : IntKind.u8.wrap t = t := by rw [IntKind.wrap_u8]; omega
  have hm2 : IntKind.u8.wrap s = s := by rw [IntKind.wrap_u8]; omega
  have hm3 : IntKind.u8.wrap so = so := by rw [IntKind.wrap_u8]; omega
  have hm4 : IntKind.u8.wrap d = d := by rw [IntKind.wrap_u8]; omega
  have HM := Lib.hid (show (w2.alloc (.cells #[.int .u8 (t % 256), .int .u8 (s % 256), .int .u8 (so % 256), .int .u8 (d % 256)] 5)) = w2.alloc (.cells ([t, s, so, d].map u8).toArray 5) by
    rw [show t % 256 = t by omega, show s % 256 = s by omega, show so % 256 = so by omega, show d % 256 = d by omega]; rfl)
  have HBn := Lib.hid (below_new HB.out (.cells ([t, s, so, d].map u8).toArray 5))
  clear hm1 hm2 hm3 hm4 HX1
  go_wp2_with fail
  rw [HM.out]
  generalize w2.alloc (.cells ([t, s, so, d].map u8).toArray 5) = w3 at HR0 HBn ⊢
  clear HM HB HO HA c4 d0 d1 d2 d3 e4
  go_loopw [5, 33] (fun bv iv wr => ∃ (i : Nat) (A1 : Option Addr) (cp1 : Nat), i ≤ ms.length ∧ bv = .slice A1 (4 + (encs (ms.take i)).length) cp1 ∧ iv = .int .i64 i ∧ Hid (∀ m ∈ ms.take i, m.Right) ∧ Hid (Below w.heap.size w wr) ∧ Hid (wr.ownsRow w.heap.size 5 1 (.slice A1 (4 + (encs (ms.take i)).length) cp1) (4 + (encs (ms.take i)).length) (([t, s, so, d] ++ encs (ms.take i)).map u8))) (fun _ iv _ => ms.length - (RowKit.intOf iv).toNat)
  case atStart => exact ⟨0, _, _, Nat.zero_le _, rfl, rfl, Lib.hid (fun m hm => by cases hm), HBn, HR0⟩
  case round =>
    clear HR0 HBn
    obtain ⟨i, A1, cp1, hi, rfl, rfl, HRI, HBI, HOI⟩ := hrel
    rcases Nat.lt_or_ge i ms.length with hin | hin
    · have hin' : (i : Int) < (ms.length : Int) := by omega
      obtain ⟨m, hm⟩ : ∃ m, ms[i]? = some m := ⟨_, List.getElem?_eq_getElem hin⟩
      obtain ⟨b, off, rfl, hbl, hat⟩ := H.out.move hm
      have hfit := HF.out m (List.mem_of_getElem? hm)
      have k : ∀ q, wr.cell? ⟨b, q, none⟩ = w.cell? ⟨b, q, none⟩ := fun q => HBI.out.cell (p := ⟨b, q, none⟩) hbl
      have c0 := (k _).trans hat.c0
      have c1 := (k _).trans hat.c1
      have c2 := (k _).trans hat.c2
      have c3 := (k _).trans hat.c3
      have c4 := (k _).trans hat.c4
      have c5 := (k _).trans hat.c5
      have c6 := (k _).trans hat.c6
      have htk : ms.take (i + 1) = ms.take i ++ [m] := by rw [List.take_add_one, hm]; rfl
      have HTK := Lib.hid htk
      have HFI := Lib.hid hfit
      have HMI := Lib.hid (List.mem_of_getElem? hm)
      have hle := encs_len (ms.take i)
      rw [List.length_take] at hle
      have HMB := Lib.hid (IsObj.made wr m.list 37)
      have hbn := below_new (Below.refl wr.heap.size wr) (m.obj 37)
      have HBJ := Lib.hid (below_step HBI.out hbn)
      have HOJ := Lib.hid ((Keep.of_below (T := fun _ => False) hbn).row HOI.out (fun _ _ h => h))
      have hlt : wr.heap.size < (wr.alloc (m.obj 37)).heap.size := by simp
      have HLT := Lib.hid hlt
      have HNB := Lib.hid (show ∀ q, (Value.slice A1 (4 + (encs (ms.take i)).length) cp1).ownBlock = some q → q ≠ wr.heap.size from fun q hq => by have := (HOI.out.lt q hq).2; omega)
      clear k hat hbn hlt hm htk hfit
      generalize hen : 4 + (encs (ms.take i)).length = q at *
      go_wp2_with fail
      refine (mright_any m _).mono ?_
      rintro r w4 ⟨rfl, hb4⟩
      have HB4 := Lib.hid (below_step HBJ.out hb4)
      have HM4 := Lib.hid (HMB.out.later hb4)
      have HO4 := Lib.hid ((Keep.of_below (T := fun _ => False) hb4).row HOJ.out (fun _ _ h => h))
      have HLT4 := Lib.hid (Nat.lt_of_lt_of_le HLT.out hb4.size)
      clear hb4 HBJ HMB HOJ HLT c0 c1 c2 c3 c4 c5 c6
      by_cases hmr : m.Right
      case neg =>
        have HNR := Lib.hid hmr
        rw [decide_eq_false hmr]
        clear hmr
        go_wp2_with fail
        go_ret2
        exact ⟨_, _, rfl, HB4.out, .arg HR.out (by omega) ⟨m, HMI.out, HNR.out⟩⟩
      case pos =>
        have HGD := Lib.hid (show m.Good from ⟨hmr, HFI.out⟩)
        rw [decide_eq_true hmr]
        clear hmr
        have c0 := HM4.out.at' 0 _ rfl
        have c1 := HM4.out.at' 1 _ rfl
        have c2 := HM4.out.at' 2 _ rfl
        have c3 := HM4.out.at' 3 _ rfl
        have c4 := HM4.out.at' 4 _ rfl
        have c5 := HM4.out.at' 5 _ rfl
        have c6 := HM4.out.at' 6 _ rfl
        go_wp2_with fail
        have hwr := write_any w.heap.size (.slice A1 q cp1) ([t, s, so, d] ++ encs (ms.take i)) m w4 (by have h := HO4.out; rw [Own8, show ([t, s, so, d] ++ encs (ms.take i)).length = q by rw [← hen]; simp; omega]; exact h) HGD.out (by simp; omega) HB4.out.size
        have HWR := Lib.hid hwr
        clear hwr c0 c1 c2 c3 c4 c5 c6
        refine HWR.out.mono ?_
        rintro r w5 ⟨v5, rfl, hw5⟩
        have hlq : (([t, s, so, d] ++ encs (ms.take i)) ++ m.enc).length = 4 + (encs (ms.take (i + 1))).length := by rw [HTK.out, encs_snoc]; simp; omega
        have h5 := hw5.at' hlq
        obtain ⟨A2, cp2, rfl⟩ := own_shape h5
        have HB5 := Lib.hid (below_keep HB4.out hw5.keep HB4.out.size (fun q hq => (HO4.out.lt q hq).1))
        have HO5 : Hid (w5.ownsRow w.heap.size 5 1 (.slice A2 (4 + (encs (ms.take (i + 1))).length) cp2) (4 + (encs (ms.take (i + 1))).length) (([t, s, so, d] ++ encs (ms.take (i + 1))).map u8)) := Lib.hid (by have h6 := h5; rw [List.append_assoc, ← encs_snoc, ← HTK.out] at h6; exact h6)
        have HR5 : Hid (∀ m ∈ ms.take (i + 1), m.Right) := Lib.hid (fun x hx => by
          rw [HTK.out] at hx
          rcases List.mem_append.1 hx with hx | hx
          · exact HRI.out x hx
          · rw [List.mem_singleton.1 hx]
            exact HGD.out.1)
        clear hw5 h5 hlq HWR HB4 HM4 HO4 HRI
        go_wp2_with fail
        go_roundw
        case rel => exact ⟨i + 1, A2, cp2, by omega, rfl, by go_num, HR5, HB5, HO5⟩
        case measure => first | omega | (simp [RowKit.intOf]; done) | (simp [RowKit.intOf]; omega)
    · obtain rfl : i = ms.length := by omega
      have hnn : ¬ (ms.length : Int) < (ms.length : Int) := by omega
      have hO := HOI.out
      have hRR := HRI.out
      rw [List.take_length] at hO hRR
      have HOF := Lib.hid hO
      have HRF := Lib.hid hRR
      have hlen : (encs (ms.take ms.length)).length = (encs ms).length := by rw [List.take_length]
      rw [hlen]
      clear hO hRR HOI HRI hlen
      go_wp2_with fail
      go_ret2
      exact ⟨_, _, rfl, HBI.out, .ok HR.out (by omega) HRF.out _ (by
        have h := HOF.out
        rw [Own8, show ([t, s, so, d] ++ encs ms).length = 4 + (encs ms).length by simp; omega]
        exact h)⟩
end Go.Proofs.Ytebgjfhaolgcjaa
