/-
  Plain lemmas on puts that find no place, or no stamp: what they touch. No Go. No condition.
-/
import Derived.Test.YtoogdfjlodchhaaPutAlonePure
import Derived.Test.YtoogdfjlodchhaaPutLaw
namespace Go.Proofs.Ytoogdfjlodchhaa
open Go.RowKit
set_option linter.unusedVariables false

theorem conf4_so (a0 a1 so a3 : Int) (w : World) (o0 : 0 ≤ so) (o2 : so ≤ 2) :
    Calls Try.prog 16 #[.int .i64 a0, .int .i64 a1, .int .i64 so, .int .i64 a3] w fun r w' => ∃ t s : Int, r = .returned (cf t s so (a3 % 4)) ∧ 1 ≤ t ∧ t ≤ 4 ∧ 1 ≤ s ∧ s ≤ 4 ∧ Below w.heap.size w w' :=
  (conf4_at a0 a1 so a3 w).mono fun r w' ⟨h, hb⟩ => ⟨1 + a0 % 4, 1 + a1 % 4, by rw [h, src3 so o0 o2], by omega, by omega, by omega, by omega, hb⟩
/-- An event that turns a number, if anything. -/
def EvN (nb : Nat) (t : Int) (e : Ev) : Prop := e.op = 0 ∨ ((nb : Int) ≤ e.cell ∧ e.cell < nb + t)

/-- A put that finds no stamp. -/
structure SoloN (k : Pu) (C : List Int) (N : Nat) (m : Int) (nb hz : Nat) : Prop where
  ok : k.Ok N m nb hz C
  so : k.tk.so ≤ 2
  num : ∀ q : Nat, (q : Int) < k.t → 16777215 ≤ C.getD (nb + q) 0
  st : k.tk.ph = 0 → k.tk.so ≠ 1 → k.tk.steps = 0
  st1 : k.tk.so = 1 → 1 ≤ k.tk.steps → k.tk.seen = 16777215
  ph : k.ph = 0 ∨ k.ph = 2
  next : k.next = 0 ∨ k.next = 1
  cl : k.ph = 0 → k.next = 0 → k.cl.steps = 0 ∧ C.getD k.cl.slot.toNat 0 = 0

theorem low_top {x : Int} (h : 16777215 ≤ x) : low x = 16777215 := by unfold low; omega
theorem stp_top {nb : Nat} {n : Int} {k : Tk} {C : List Int} {now : Int} (h : k.Ok nb n C) (hp : k.ph = 0) (hso : k.so ≤ 2) (hnum : ∀ q : Nat, (q : Int) < k.t → 16777215 ≤ C.getD (nb + q) 0) (st : k.so ≠ 1 → k.steps = 0) (st1 : k.so = 1 → 1 ≤ k.steps → k.seen = 16777215) (hm : k.steps < most k.t k.so k.d) :
    ((stp nb k C now).1.ph = 0 ∨ (stp nb k C now).1.ph = 2) ∧ ((stp nb k C now).1.ph = 0 → (stp nb k C now).1.so ≠ 1 → (stp nb k C now).1.steps = 0) ∧ ((stp nb k C now).1.so = 1 → 1 ≤ (stp nb k C now).1.steps → (stp nb k C now).1.seen = 16777215) ∧
      ((stp nb k C now).1.ph = 0 → ∀ q : Nat, (q : Int) < k.t → 16777215 ≤ (stp nb k C now).2.1.getD (nb + q) 0) ∧ ∀ e ∈ (stp nb k C now).2.2.toList, EvN nb k.t e := by
  have ho0 := h.o0
  have ht1 := h.lay.t1
  have hs0 := h.s0
  have h0 := low_top (hnum 0 (by omega))
  rw [Nat.add_zero] at h0
  have hfin : ∀ (k : Tk) (x : Int), fin k x 16777215 = { k with ph := 2 } := fun k x => if_neg (by omega)
  rcases (by omega : k.so = 0 ∨ k.so = 1 ∨ k.so = 2) with hs | hs | hs
  · rw [stp_c0 hp hs, h0, hfin]
    refine ⟨.inr rfl, fun a => by simp at a, fun a => by have a' : k.so = 1 := a; omega, fun a => by simp at a, fun e he => ?_⟩
    rw [show (some (⟨k.who, 3, nb, C.getD nb 0, add64 (C.getD nb 0) 1, true⟩ : Ev)).toList = [⟨k.who, 3, nb, C.getD nb 0, add64 (C.getD nb 0) 1, true⟩] from rfl, List.mem_singleton] at he
    rw [he]
    exact .inr ⟨Int.le_refl _, by show (nb : Int) < nb + k.t; omega⟩
  · by_cases hl : k.steps < k.t
    · have h1 := low_top (hnum k.steps.toNat (by omega))
      rw [stp_c1l hp hs hl, h1]
      have hse : max k.seen 16777215 = 16777215 := by have := h.e1; omega
      refine ⟨.inl hp, fun _ a => absurd hs a, fun _ _ => hse, fun _ => hnum, fun e he => ?_⟩
      cases Option.mem_toList.1 he
      exact .inl rfl
    · have hse := st1 hs (by omega)
      rw [stp_c1f hp hs hl (by omega)]
      exact ⟨.inr rfl, fun a => by simp at a, fun _ _ => hse, fun a => by simp at a, fun e he => by simp at he⟩
  · have hst := st (by omega)
    rw [stp_c20 hp hs hst, h0, if_pos rfl]
    refine ⟨.inr rfl, fun a => by simp at a, fun a => by have a' : k.so = 1 := a; omega, fun a => by simp at a, fun e he => ?_⟩
    cases Option.mem_toList.1 he
    exact .inl rfl

theorem SoloN.step {k : Pu} {C : List Int} {N : Nat} {m : Int} {nb hz : Nat} {now : Int} (S : SoloN k C N m nb hz) (hk : k.ph = 0) (n0 : 0 ≤ now) (hn : ∀ i, 0 ≤ C.getD i 0) :
    ((k.step m nb hz C now).ph = 2 ∨ SoloN (k.step m nb hz C now) (k.cells N nb C now) N m nb hz) ∧ ∀ e ∈ k.ev N nb hz C now, EvN nb k.t e := by
  obtain ⟨ok', hrem⟩ := S.ok.next_ (now := now) n0 hn
  replace ok' := ok'.cells (Pu.cells_len k N nb C now)
  have htt := S.ok.tt
  have hp : ¬ k.ph ≠ 0 := by omega
  have hm0 := S.ok.cl.s0
  have hm1 := S.ok.cl.m0
  unfold Pu.step Pu.cells Pu.ev at *
  rw [if_neg hp] at ok' ⊢
  rw [if_neg hp] at ok' ⊢
  rw [if_neg hp]
  rcases S.ok.at' hk with ⟨a, b, c⟩ | ⟨a, b, c⟩ | ⟨a, b, c⟩ | ⟨a, b, c⟩
  · rw [if_pos a] at ok' ⊢
    rw [if_pos a] at ok' ⊢
    rw [if_pos a]
    obtain ⟨z1, z2⟩ := S.cl hk a
    have hc1 : k.cl.step m hz C = { k.cl.word 0 with ph := 1 } := by
      unfold Cl.step
      rw [if_pos b, if_pos z1]
      have e1 : k.cl.cell hz = k.cl.slot.toNat := if_pos z1
      rw [e1, z2]
      unfold Cl.look
      rw [if_neg (by decide), if_pos (by decide)]
    have hev : ∀ e ∈ k.cl.ev hz C, EvN nb k.t e := fun e he => by
      unfold Cl.ev at he
      rw [if_pos b, List.mem_singleton] at he
      rw [he]
      exact .inl rfl
    refine ⟨.inr ?_, hev⟩
    have h1 : (k.cl.step m hz C).ph = 1 := by rw [hc1]
    generalize k.cl.step m hz C = c1 at *
    rw [h1, Pu.after_1] at ok' ⊢
    exact ⟨ok', S.so, S.num, S.st, S.st1, .inl hk, .inr (by show k.next + 1 = 1; omega), fun _ h2 => by have h3 : k.next + 1 = 0 := h2; omega⟩
  · have e0 : ¬ k.next = 0 := by omega
    rw [if_neg e0, if_pos a] at ok' ⊢
    rw [if_neg e0, if_pos a] at ok' ⊢
    rw [if_neg e0, if_pos a]
    have htm := S.ok.tm c
    rw [← htt] at htm
    obtain ⟨u1, u2, u3, u4, u5⟩ := stp_top (now := now) S.ok.tk c S.so (by rw [htt]; exact S.num) (S.st c) S.st1 htm
    obtain ⟨s1, s2, s3, s4, s5, s6⟩ := stp_same nb k.tk C now
    rw [htt] at u4 u5
    refine ⟨?_, u5⟩
    clear u5
    generalize (stp nb k.tk C now).1 = k1 at *
    generalize (stp nb k.tk C now).2.1 = C1 at *
    rcases u1 with h1 | h1
    · rw [h1, Pu.after_0] at ok' ⊢
      exact .inr ⟨ok', by show k1.so ≤ 2; rw [s3]; exact S.so, u4 h1, u2, u3, .inl hk, .inr a, fun _ h2 => by have h3 : k.next = 0 := h2; omega⟩
    · rw [h1, Pu.after_2]
      exact .inl rfl
  · exact absurd S.next (by omega)
  · exact absurd S.next (by omega)

/-- A put that will be refused, whose last steps turned numbers alone. -/
def NoP (k : Pu) (C : List Int) (N : Nat) (m : Int) (nb hz : Nat) : Prop :=
  k.Ok N m nb hz C ∧ (k.ph = 2 ∨ (k.ph = 0 ∧ SoloN k C N m nb hz) ∨ ((∀ i : Int, m ≤ i → i < m + k.s → ¬ usable C k.t hz i) ∧ SoloF k C N m nb hz))
theorem NoP.step {k : Pu} {C : List Int} {N : Nat} {m : Int} {nb hz : Nat} {now : Int} (S : NoP k C N m nb hz) (n0 : 0 ≤ now) (hn : ∀ i, 0 ≤ C.getD i 0) : NoP (k.step m nb hz C now) (k.cells N nb C now) N m nb hz ∧ ∀ e ∈ k.ev N nb hz C now, EvN nb k.t e := by
  obtain ⟨ok, S⟩ := S
  have ok' := (ok.next_ (now := now) n0 hn).1.cells (Pu.cells_len k N nb C now)
  rcases S with h | ⟨h0, h⟩ | ⟨h1, h⟩
  · have hp : k.ph ≠ 0 := by omega
    refine ⟨⟨ok', .inl ?_⟩, fun e he => ?_⟩
    · rw [show k.step m nb hz C now = k from if_pos hp]
      exact h
    · rw [show k.ev N nb hz C now = [] from if_pos hp] at he
      simp at he
  · obtain ⟨a, b⟩ := h.step h0 n0 hn
    refine ⟨⟨ok', ?_⟩, b⟩
    rcases a with a | a
    · exact .inl a
    · rcases a.ph with a0 | a0
      · exact .inr (.inl ⟨a0, a⟩)
      · exact .inl a0
  · obtain ⟨a, b, c⟩ := h.step h1 n0 hn
    refine ⟨⟨ok', .inr (.inr ⟨?_, ?_⟩)⟩, fun e he => .inl (c e he)⟩
    · rw [b, (Pu.step_same k m nb hz C now).s, (Pu.step_same k m nb hz C now).t]
      exact h1
    · rw [b]
      exact a
theorem NoP.done {k : Pu} {C : List Int} {N : Nat} {m : Int} {nb hz : Nat} (S : NoP k C N m nb hz) (hp : k.ph ≠ 0) : k.ph = 2 := by
  rcases S.2 with h | ⟨h, _⟩ | ⟨_, h⟩
  · exact h
  · exact absurd h hp
  · exact h.ph.resolve_left hp

/-- What a cell is for. -/
theorem kind_total (t n c : Int) (hn : 0 ≤ n) (ht : 0 ≤ t) : ∃ k x, KindC t n c k x ∧ (2 * n + t ≤ c → c < 2 * n + 2 * t → k = 4) := by
  unfold KindC
  by_cases h1 : c < 0 ∨ 2 * n + 2 * t ≤ c
  · exact ⟨0, 0, .inl ⟨h1, rfl, rfl⟩, by omega⟩
  · by_cases h2 : c < n
    · exact ⟨1, c, .inr (.inl ⟨by omega, h2, rfl, rfl⟩), by omega⟩
    · by_cases h3 : c < 2 * n
      · exact ⟨2, c - n, .inr (.inr (.inl ⟨by omega, h3, rfl, rfl⟩)), by omega⟩
      · by_cases h4 : c < 2 * n + t
        · exact ⟨3, c - 2 * n, .inr (.inr (.inr (.inl ⟨by omega, h4, rfl, rfl⟩))), by omega⟩
        · exact ⟨4, c - (2 * n + t), .inr (.inr (.inr (.inr ⟨by omega, by omega, rfl, rfl⟩))), fun _ _ => rfl⟩

/-- All words are live; all numbers are at the top. -/
structure Lv (C : List Int) (M e : Nat) : Prop where
  len : C.length = M
  live : ∀ q : Nat, q < e → C.getD q 0 % 4 = 1
theorem Lv.start (M : Nat) : Lv (List.replicate M 0) M 0 := ⟨List.length_replicate, fun q h => by omega⟩
theorem Lv.step {C : List Int} {M e : Nat} (h : Lv C M e) (he : e < M) : Lv (C.set e 9) M (e + 1) :=
  ⟨by rw [List.length_set]; exact h.len, fun q hq => by
    rcases (by omega : q < e ∨ q = e) with h1 | rfl
    · rw [getD_set_ne2 _ (by omega)]
      exact h.live q h1
    · rw [getD_set_eq2 _ (by rw [h.len]; exact he)]
      decide⟩
theorem Lv.no {C : List Int} {M N nb hz : Nat} {t s so d who e value m : Int} (h : Lv C M N) (hok : (pu0 t s so d who e value m).Ok N m nb hz C) (hm : who * s = m) : NoP (pu0 t s so d who e value m) C N m nb hz := by
  refine ⟨hok, .inr (.inr ⟨fun i h1 h2 => ?_, ⟨hok, ⟨0, Fd.start t s so d who hok.cl.lay hok.cl.hz hok.cl.len hok.cl.w0 hok.cl.w1 hm hok.cl.m0 hok.cl.m1⟩, rfl, .inl rfl⟩⟩)⟩
  have h3 : m + s ≤ (N : Int) := hok.cl.m1
  have h4 : 0 ≤ m := hok.cl.m0
  obtain ⟨q, rfl⟩ : ∃ q : Nat, i = (q : Int) := ⟨i.toNat, by omega⟩
  have h5 : (q : Int) < m + s := h2
  exact usable_live (h.live q (by omega))
structure Tp (C : List Int) (nb M e : Nat) : Prop where
  len : C.length = M
  zero : ∀ q : Nat, q < nb → C.getD q 0 = 0
  top : ∀ q : Nat, q < e → C.getD (nb + q) 0 = 16777215
theorem Tp.start (nb M : Nat) : Tp (List.replicate M 0) nb M 0 := ⟨List.length_replicate, fun q _ => zeros _ _, fun q h => by omega⟩
theorem Tp.step {C : List Int} {nb M e : Nat} (h : Tp C nb M e) (he : nb + e < M) : Tp (C.set (nb + e) 16777215) nb M (e + 1) :=
  ⟨by rw [List.length_set]; exact h.len, fun q hq => by rw [getD_set_ne2 _ (by omega)]; exact h.zero q hq, fun q hq => by
    rcases (by omega : q < e ∨ q = e) with h1 | rfl
    · rw [getD_set_ne2 _ (by omega)]
      exact h.top q h1
    · exact getD_set_eq2 _ (by rw [h.len]; exact he)⟩
theorem Tp.no {C : List Int} {M N nb hz T : Nat} {t s so d who e value m : Int} (h : Tp C nb M T) (hT : (T : Int) = t) (hok : (pu0 t s so d who e value m).Ok N m nb hz C) (hso : so ≤ 2) : NoP (pu0 t s so d who e value m) C N m nb hz := by
  have h3 : m + s ≤ (N : Int) := hok.cl.m1
  have h4 : 0 ≤ m := hok.cl.m0
  have h5 : (nb : Int) = 2 * N + t := hok.tk.nt
  have h6 := hok.cl.lay.s1
  have h7 := hok.cl.lay.t1
  have h8 : 1 ≤ s := h6
  have h9 : 1 ≤ t := h7
  refine ⟨hok, .inr (.inl ⟨rfl, hok, hso, fun q hq => ?_, fun _ _ => rfl, fun _ h => absurd h (by show ¬ (1 : Int) ≤ 0; decide), .inl rfl, .inl rfl, fun _ _ => ⟨rfl, h.zero _ (by show m.toNat < nb; omega)⟩⟩)⟩
  have hq' : (q : Int) < t := hq
  rw [h.top q (by omega)]
  exact Int.le_refl _

end Go.Proofs.Ytoogdfjlodchhaa
