/-
  The contract of Finish: all calls come to their ends, in so many steps. No condition but that there are less than a million moves in all.
-/
import Derived.Test.YtpfjommkjkbonaaGreatPlayCalls
import Derived.Test.YtpfjommkjkbonaaGreatFinPure
namespace Go.Proofs.YtpfjommkjkbonaaGreat
open Go.RowKit
set_option linter.unusedVariables false

/-- What is known while calls come to their ends: j looks, s of which were steps. -/
structure FnL (W w : World) (l : List Thing) (B : YB) (N : Nat) (Yf : Nat → Yd) (n : Nat) (Q b μ0 : Nat) (Y : Yd) (J : Nat → Nat) (j s : Nat) (Yg : Nat → Yd) (l0 : List Thing) (J0 : Nat → Nat) : Prop where
  yd : YdL W w l B N Y J (n + s)
  tr : YTr B N Yg (n + s)
  at' : Yg (n + s) = Y
  same : ∀ i, i ≤ n → Yg i = Yf i
  tick : Tick B N (Yf n) j Y s
  fin : ∃ μ, s + μ ≤ μ0 ∧ FinM (plOf B N) B.T Q b Y μ
  go : YGo (Yf n) Y l0 l J0 J
section
variable {W w w' : World} {l l' l0 : List Thing} {B : YB} {N n Q b μ0 j s : Nat} {Yf Yg : Nat → Yd} {Y : Yd} {J J' J0 : Nat → Nat}
theorem FnL.later (h : FnL W w l B N Yf n Q b μ0 Y J j s Yg l0 J0) (e : Below w.heap.size w w') : FnL W w' l B N Yf n Q b μ0 Y J j s Yg l0 J0 := ⟨h.yd.later e, h.tr, h.at', h.same, h.tick, h.fin, h.go⟩
theorem FnL.start (h : YdL W w l B N (Yf n) J n) (ht : YTr B N Yf n) (hf : FinM (plOf B N) B.T Q b (Yf n) μ0) : FnL W w l B N Yf n Q b μ0 (Yf n) J 0 0 Yf l J :=
  ⟨h, ht, rfl, fun _ _ => rfl, .zero, ⟨μ0, by omega, hf⟩, YGo.refl _ _ _⟩
theorem FnL.few (h : FnL W w l B N Yf n Q b μ0 Y J j s Yg l0 J0) : s ≤ μ0 := by obtain ⟨μ, h1, _⟩ := h.fin; omega
theorem FnL.skip (h : FnL W w l B N Yf n Q b μ0 Y J j s Yg l0 J0) {i r : Nat} (hj : j = r * B.T + i) (hi : i < B.T) (hn : Y.ts[i]? = some none) : FnL W w l B N Yf n Q b μ0 Y J (j + 1) s Yg l0 J0 :=
  ⟨h.yd, h.tr, h.at', h.same, .skip h.tick (by rw [hj, Nat.mul_comm r B.T, Nat.mul_add_mod, Nat.mod_eq_of_lt hi]; exact hn), h.fin, h.go⟩
theorem FnL.step (h : FnL W w l B N Yf n Q b μ0 Y J j s Yg l0 J0) {i r : Nat} (hj : j = r * B.T + i) (hi : i < B.T) (h1 : Q ≤ b) (h2 : B.T * (4 * N + 10) ≤ b) (hn : n + μ0 < 1000000) {T : Wk} {q : Nat} {z : Int} (hk : Y.ts[i]? = some (some (T, q))) (ha : T.ask Y.C z) (hl : YH W w' l' B (Y.step (plOf B N i) i T q z) J') (hg : YGo Y (Y.step (plOf B N i) i T q z) l l' J J') :
    ∃ Yg', FnL W w' l' B N Yf n Q b μ0 (Y.step (plOf B N i) i T q z) J' (j + 1) (s + 1) Yg' l0 J0 := by
  obtain ⟨μ, hμ, hF⟩ := h.fin
  have hlt := h.yd.ok
  have hmv : YMv (plOf B N) Y (Y.step (plOf B N i) i T q z) := .step i T q z hk ha
  have hyd := h.yd.next (by omega) hmv hl
  obtain ⟨μ', hμ', hF'⟩ := hF.step hlt (fun _ => rfl) (by omega) h1 h2 hk ha (fun j => (h.yd.h.fit j).1) hyd.ok
  have hhow : YHow B N (Yg (n + s)) (Y.step (plOf B N i) i T q z) := by rw [h.at']; exact .step i T q z hk ha
  have htr := h.tr.snoc hhow (by rw [h.at']; exact hmv) hyd.h.fit (by omega)
  refine ⟨fun k => if k ≤ n + s then Yg k else Y.step (plOf B N i) i T q z, hyd, htr, if_neg (by omega), fun k hk => ?_, ?_, ⟨μ', by omega, hF'⟩, h.go.trans hg⟩
  · show (if k ≤ n + s then Yg k else _) = _
    rw [if_pos (by omega)]
    exact h.same k hk
  · have e : i = j % B.T := by rw [hj, Nat.mul_comm r B.T, Nat.mul_add_mod, Nat.mod_eq_of_lt hi]
    have := Tick.step h.tick T q z (by rw [← e]; exact hk) ha
    rw [← e] at this
    exact this
end
/-- What Finish answers. -/
def FinPost (W w : World) (l : List Thing) (B : YB) (N : Nat) (Yf : Nat → Yd) (n Q b μ0 : Nat) (J : Nat → Nat) (r : Ending) (w' : World) : Prop :=
  ∃ (s j : Nat) (l' : List Thing) (Y' : Yd) (J' : Nat → Nat) (Yg : Nat → Yd), r = .returned (i64 s) ∧ FnL W w' l' B N Yf n Q b μ0 Y' J' j s Yg l J ∧ ∀ k, k < B.T → Y'.ts[k]? = some none
theorem step_keep {Y : Yd} {P : Pl} {k : Nat} {T : Wk} {i : Nat} {z : Int} {j : Nat} (hj : j ≠ k) : (Y.step P k T i z).ts[j]? = Y.ts[j]? := by
  show (if _ then Y.ts.set k _ else Y.ts.set k _)[j]? = _
  split
  · rw [List.getElem?_set_ne (fun e => hj e.symm)]
  · rw [List.getElem?_set_ne (fun e => hj e.symm)]

theorem fin_fld (t s so d : Int) (w : World) : (Instr.field 24 (cf t s so d) 0).run Tryz.prog w = .ok (i64 t) w := by
  simp [Instr.field, go_sem, asAgg]

set_option maxRecDepth 100000 in
set_option maxHeartbeats 8000000 in
theorem fin_any {W w : World} {l : List Thing} {B : YB} {N n Q b μ0 : Nat} {Yf : Nat → Yd} {J : Nat → Nat} (h : YdL W w l B N (Yf n) J n) (ht : YTr B N Yf n) (hf : FinM (plOf B N) B.T Q b (Yf n) μ0) (h1 : Q ≤ b) (h2 : B.T * (4 * N + 10) ≤ b) (hn : n + μ0 < 1000000) :
    Calls Tryz.prog 30 #[pt B.yb] w (FinPost W w l B N Yf n Q b μ0 J) := by
  have HF0 := Lib.hid (FnL.start h ht hf)
  have HT := Lib.hid h.hT
  have hT64 : B.T ≤ 64 := by have := h.cf.lay.t2; have := h.hT; omega
  clear h ht hf
  go_enter Tryz.func30, Tryz.ntmps30
  go_wp2_with fail
  go_loopw [3, 4] (fun sv bv wr => ∃ (r s : Nat) (bz : Bool) (lx : List Thing) (Y : Yd) (Jx : Nat → Nat) (Yg : Nat → Yd), sv = .int .i64 s ∧ bv = .bool bz ∧ Hid (FnL W wr lx B N Yf n Q b μ0 Y Jx (r * B.T) s Yg l J) ∧ Hid (bz = false → ∀ k, k < B.T → Y.ts[k]? = some none)) (fun sv bv _ => 2 * (μ0 - (RowKit.intOf sv).toNat) + (match bv with | .bool true => 1 | _ => 0))
  case atStart => exact ⟨0, 0, true, _, _, _, _, rfl, rfl, (by rw [Nat.zero_mul]; exact HF0), Lib.hid (fun h => by cases h)⟩
  case round =>
    clear HF0
    obtain ⟨r, s, bz, lx, Y, Jx, Yg, rfl, rfl, HF, HZ⟩ := hrel
    cases bz with
    | false =>
      go_wp2_with fail
      go_ret
      exact ⟨s, _, lx, Y, Jx, Yg, rfl, HF.out, HZ.out trivial⟩
    | true =>
      obtain ⟨v, vd, X, hA⟩ := HF.out.yd.h
      have HA := Lib.hid hA
      clear hA HZ
      go_wp2_with fail
      refine (yconf_any HA.out).mono ?_
      rintro r2 w2 ⟨rfl, hb⟩
      have HF2 := Lib.hid (HF.out.later hb)
      have HS0 : Hid (s ≤ s) := Lib.hid (Nat.le_refl _)
      clear hb HA HF
      have hfl := fin_fld B.t B.s B.so B.d w2
      go_wp2_with fail
      clear hfl
      go_loopw [3, 4, 10] (fun sv bv iv wx => ∃ (s' i : Nat) (bz : Bool) (ly : List Thing) (Y : Yd) (Jy : Nat → Nat) (Yg : Nat → Yd), i ≤ B.T ∧ s ≤ s' ∧ sv = .int .i64 s' ∧ bv = .bool bz ∧ iv = .int .i64 i ∧ Hid (FnL W wx ly B N Yf n Q b μ0 Y Jy (r * B.T + i) s' Yg l J) ∧ Hid (bz = true → s < s') ∧ Hid (bz = false → ∀ k, k < i → Y.ts[k]? = some none)) (fun _ _ iv _ => B.T - (RowKit.intOf iv).toNat)
      case atStart => exact ⟨s, 0, false, _, _, _, _, Nat.zero_le _, Nat.le_refl _, rfl, rfl, rfl, HF2, Lib.hid (fun h => by cases h), Lib.hid (fun _ k hk => absurd hk (Nat.not_lt_zero _))⟩
      case round =>
        clear HF2
        obtain ⟨s', i, bz, ly, Y, Jy, Yg, hi, hs, rfl, rfl, rfl, HF, HU, HV⟩ := hrel
        rcases Nat.lt_or_ge i B.T with hlt | hge
        · have hi' : (i : Int) < B.t := by have := HT.out; omega
          go_wp2_with fail
          refine (ystep_who HF.out.yd.cf HF.out.yd.h HF.out.yd.ok (by have := HF.out.few; omega) i).mono ?_
          rintro r2 w3 ⟨bs, l3, J3, Y3, rfl, hl3, hg3, h3⟩
          have HL := Lib.hid hl3
          have HG := Lib.hid hg3
          have H3 := Lib.hid h3
          clear hl3 hg3 h3
          cases bs with
          | false =>
            have HI : Hid (Y.ts[i]? = some none) := Lib.hid (by
              rcases H3.out with ⟨_, _, h5⟩ | ⟨h4, _⟩
              · cases hq : Y.ts[i]? with
                | none =>
                  rw [List.getElem?_eq_none_iff] at hq
                  have := HF.out.yd.ok.len
                  omega
                | some a =>
                  cases a with
                  | none => rfl
                  | some a => exact absurd hq (h5 i rfl a)
              · cases h4)
            have HF3 : Hid (FnL W w3 l3 B N Yf n Q b μ0 Y J3 (r * B.T + (i + 1)) s' Yg l J) := Lib.hid (by
              rcases H3.out with ⟨_, h4, _⟩ | ⟨h4, _⟩
              · have hL := HL.out
                have hG := HG.out
                rw [h4] at hL hG
                have h := HF.out.skip rfl hlt HI.out
                exact ⟨⟨hL, h.yd.ok, h.yd.len, h.yd.cf, h.yd.hT⟩, h.tr, h.at', h.same, h.tick, h.fin, h.go.trans hG⟩
              · cases h4)
            clear HF HL HG H3
            cases bz with
            | true =>
              go_wp2_with fail
              go_roundw
              case rel => exact ⟨s', i + 1, true, l3, Y, J3, Yg, by have := HT.out; omega, hs, rfl, rfl, by go_num, HF3, Lib.hid (fun _ => HU.out trivial), Lib.hid (fun h => by cases h)⟩
              case measure => have := HT.out; first | omega | (simp [RowKit.intOf]; done) | (simp [RowKit.intOf]; omega)
            | false =>
              go_wp2_with fail
              refine (HF3.out.yd.busy i false ⟨_, HI.out, rfl⟩).mono ?_
              rintro r2 w4 ⟨rfl, rfl⟩
              go_wp2_with fail
              go_roundw
              case rel => exact ⟨s', i + 1, false, l3, Y, J3, Yg, by have := HT.out; omega, hs, rfl, rfl, by go_num, HF3, Lib.hid (fun h => by cases h), Lib.hid (fun _ k hk => by
                by_cases e : k = i
                · rw [e]; exact HI.out
                · exact HV.out trivial k (by omega))⟩
              case measure => have := HT.out; first | omega | (simp [RowKit.intOf]; done) | (simp [RowKit.intOf]; omega)
          | true =>
            obtain ⟨T, q, z, HK, Yg3, HF3⟩ : ∃ (T : Wk) (q : Nat) (z : Int), Hid (Y.ts[i]? = some (some (T, q))) ∧ ∃ Yg3, Hid (FnL W w3 l3 B N Yf n Q b μ0 (Y.step (plOf B N i) i T q z) J3 (r * B.T + (i + 1)) (s' + 1) Yg3 l J) := by
              rcases H3.out with ⟨h4, _⟩ | ⟨_, k, T, q, z, h5, h6, h7, h8⟩
              · cases h4
              · obtain rfl : k = i := by omega
                have hL := HL.out
                have hG := HG.out
                rw [h8] at hL hG
                obtain ⟨Yg3, h9⟩ := HF.out.step rfl hlt h1 h2 hn h6 h7 hL hG
                exact ⟨T, q, z, Lib.hid h6, Yg3, Lib.hid h9⟩
            obtain ⟨a, HA1⟩ : ∃ a, Hid ((Y.step (plOf B N i) i T q z).ts[i]? = some a) := by
              cases hq : (Y.step (plOf B N i) i T q z).ts[i]? with
              | none =>
                rw [List.getElem?_eq_none_iff] at hq
                have := HF3.out.yd.ok.len
                omega
              | some a => exact ⟨a, Lib.hid rfl⟩
            have HV3 : Hid (bz = false → ∀ k, k < i → (Y.step (plOf B N i) i T q z).ts[k]? = some none) := Lib.hid (fun hb k hk => by
              rw [step_keep (by omega)]
              exact HV.out hb k hk)
            have hsb : s' < 1000000 := by have := HF3.out.few; omega
            generalize Y.step (plOf B N i) i T q z = Y4 at HF3 HA1 HV3
            clear HF HL HG H3 HV
            cases bz with
            | true =>
              go_wp2_with fail
              go_roundw
              case rel => exact ⟨s' + 1, i + 1, true, l3, Y4, J3, Yg3, by have := HT.out; omega, by omega, by go_num, rfl, by go_num, HF3, Lib.hid (fun _ => by omega), Lib.hid (fun h => by cases h)⟩
              case measure => have := HT.out; first | omega | (simp [RowKit.intOf]; done) | (simp [RowKit.intOf]; omega)
            | false =>
              go_wp2_with fail
              refine (HF3.out.yd.busy i a.isSome ⟨_, HA1.out, rfl⟩).mono ?_
              rintro r2 w4 ⟨rfl, rfl⟩
              go_wp2_with fail
              go_roundw
              case rel => exact ⟨s' + 1, i + 1, a.isSome, l3, Y4, J3, Yg3, by have := HT.out; omega, by omega, by go_num, rfl, by go_num, HF3, Lib.hid (fun _ => by omega), Lib.hid (fun hz k hk => by
                by_cases e : k = i
                · rw [e, HA1.out]
                  cases a with
                  | none => rfl
                  | some a => cases hz
                · exact HV3.out trivial k (by omega))⟩
              case measure => have := HT.out; first | omega | (simp [RowKit.intOf]; done) | (simp [RowKit.intOf]; omega)
        · obtain rfl : i = B.T := by omega
          have hnn : ¬ (B.T : Int) < B.t := by have := HT.out; omega
          have hfew := HF.out.few
          go_wp2_with fail
          go_roundw
          case rel => exact ⟨r + 1, s', bz, ly, Y, Jy, Yg, rfl, rfl, (by rw [Nat.add_mul, Nat.one_mul]; exact HF), HV⟩
          case measure =>
            cases bz with
            | true =>
              have := HU.out rfl
              simp [RowKit.intOf]
              omega
            | false =>
              simp [RowKit.intOf]
              omega
end Go.Proofs.YtpfjommkjkbonaaGreat
