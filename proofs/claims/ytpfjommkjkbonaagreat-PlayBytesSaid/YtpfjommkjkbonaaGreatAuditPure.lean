/-
  Which events may be, by the page, of any events; and what is known of a yard's tasks, so that all that they note may be. No Go. No condition.
-/
import Derived.Test.YtpfjommkjkbonaaGreatYardPure
import Derived.Test.YtpfjommkjkbonaaGreatAuditMay
import Derived.Test.YtpfjommkjkbonaaGreatATake
namespace Go.Proofs.YtpfjommkjkbonaaGreat
open Go.RowKit
set_option linter.unusedVariables false

theorem low_small {x : Int} (h : low x + 1 < 16777215) : low x = x := by unfold low at h ⊢; omega
theorem inc64_one {x : Int} (h0 : 0 ≤ x) (h1 : x < 18446744073709551615) : inc64 x = x + 1 := by
  unfold inc64
  rw [IntKind.wrap_u64]
  omega
/-- A step of a stamp notes nothing, or what may be of a number. -/
theorem stp_may {nb : Nat} {n : Int} {k : Tk} {C : List Int} {now so : Int} (h : k.Ok nb n C) (hso : k.so = so) (hf : ∀ j, 0 ≤ C.getD j 0 ∧ C.getD j 0 ≤ 18446744073709551615) (hs : so = 1 → k.who < k.steps → low (C.getD (nb + k.who.toNat) 0) ≤ k.seen) :
    (stp nb k C now).2.2 = none ∨ ∃ e, (stp nb k C now).2.2 = some e ∧ e.who = k.who ∧ (nb : Int) ≤ e.cell ∧ e.cell < nb + k.t ∧ e.old = C.getD e.cell.toNat 0 ∧ MayN so (e.cell - nb) e := by
  have w0 := h.w0; have w1 := h.w1; have s0 := h.s0; have e1 := h.e1; have sw := h.sw
  subst hso
  have hold : ∀ (i : Nat), C.getD i 0 = C.getD (i : Int).toNat 0 := fun i => by rw [Int.toNat_natCast]
  unfold stp
  split
  · rename_i hp
    split
    · rename_i ho
      exact .inr ⟨_, rfl, rfl, Int.le_refl _, by show (nb : Int) < nb + k.t; omega, hold nb, .inl ⟨ho, by show (nb : Int) - nb = 0; omega, rfl, rfl⟩⟩
    · split
      · rename_i ho
        split
        · rename_i hst
          exact .inr ⟨_, rfl, rfl, by show (nb : Int) ≤ (nb + k.steps.toNat : Nat); omega, by show ((nb + k.steps.toNat : Nat) : Int) < nb + k.t; omega, hold _, .inr (.inl ⟨ho, .inl rfl⟩)⟩
        · split
          · rename_i hst hse
            refine .inr ⟨_, rfl, rfl, by show (nb : Int) ≤ (nb + k.who.toNat : Nat); omega, by show ((nb + k.who.toNat : Nat) : Int) < nb + k.t; omega, hold _, .inr (.inl ⟨ho, .inr ⟨rfl, by show k.who = ((nb + k.who.toNat : Nat) : Int) - nb; omega, ?_⟩⟩)⟩
            show C.getD (nb + k.who.toNat) 0 < k.seen + 1
            have hq := hs ho (by omega)
            unfold low at hq
            omega
          · exact .inl rfl
      · split
        · rename_i ho
          split
          · exact .inr ⟨_, rfl, rfl, Int.le_refl _, by show (nb : Int) < nb + k.t; omega, hold nb, .inr (.inr ⟨ho, by show (nb : Int) - nb = 0; omega, .inl rfl⟩)⟩
          · split
            · exact .inr ⟨_, rfl, rfl, Int.le_refl _, by show (nb : Int) < nb + k.t; omega, hold nb, .inr (.inr ⟨ho, by show (nb : Int) - nb = 0; omega, .inl rfl⟩)⟩
            · split
              · rename_i h0 h1 h2
                split
                · rename_i hx
                  refine .inr ⟨_, rfl, rfl, Int.le_refl _, by show (nb : Int) < nb + k.t; omega, hold nb, .inr (.inr ⟨ho, by show (nb : Int) - nb = 0; omega, .inr ⟨rfl, .inr ?_⟩⟩)⟩
                  show k.seen + 1 = inc64 (C.getD nb 0)
                  have hq := hf nb
                  rw [hx, inc64_one (by omega) (by omega)]
                · exact .inr ⟨_, rfl, rfl, Int.le_refl _, by show (nb : Int) < nb + k.t; omega, hold nb, .inr (.inr ⟨ho, by show (nb : Int) - nb = 0; omega, .inr ⟨rfl, .inl rfl⟩⟩)⟩
              · exact .inr ⟨_, rfl, rfl, Int.le_refl _, by show (nb : Int) < nb + k.t; omega, hold nb, .inr (.inr ⟨ho, by show (nb : Int) - nb = 0; omega, .inl rfl⟩)⟩
        · split
          · exact .inl rfl
          · exact .inl rfl
  · exact .inl rfl

/-- What is known of a put, of its word and of its thread's number. -/
structure PA (so : Int) (nb : Nat) (C : List Int) (k : Pu) : Prop where
  so' : k.tk.so = so
  word : k.ph = 0 → (k.cl.ph = 1 ∨ 1 ≤ k.cl.steps) → C.getD k.cl.slot.toNat 0 % 4 ≠ 1 ∧ C.getD k.cl.slot.toNat 0 / 8 % 8192 = k.cl.wg
  num : k.ph = 0 → so = 1 → k.tk.ph = 0 → k.who < k.tk.steps → low (C.getD (nb + k.who.toNat) 0) ≤ k.tk.seen
/-- What is known of a take that is under way: its word was live; its hazard stands; the place is not used anew meanwhile. -/
structure TA (N : Nat) (C : List Int) (L : List Ev) (a : Ta) : Prop where
  live : a.word % 4 = 1
  hz : a.next = 1 ∨ a.next = 2 → C.getD (2 * N + a.who.toNat) 0 = a.slot + 1
  word : a.next = 2 → (C.getD a.slot.toNat 0 = a.word ∨ C.getD a.slot.toNat 0 = tkW a.word) ∧ loadE L a.who a.slot = some a.word
/-- A put that is beyond where it would see the hazard of g at its place. -/
def Pu.past (k : Pu) (g : Int) : Prop := k.ph = 0 ∧ (k.cl.ph = 1 ∨ g < k.cl.steps - 1)

theorem tkW_parts {x : Int} (h0 : 0 ≤ x) : tkW x % 4 = 2 ∧ tkW x / 4 % 2 = x / 4 % 2 ∧ tkW x / 8 % 8192 = x / 8 % 8192 ∧ tkW x / 65536 % 16777216 = x / 65536 % 16777216 ∧ tkW x / 1099511627776 = x / 1099511627776 := by
  unfold tkW
  have h1 : 0 ≤ x / 4 % 2 ∧ x / 4 % 2 < 2 := by omega
  have h2 : 0 ≤ x / 8 % 8192 ∧ x / 8 % 8192 < 8192 := by omega
  have h3 : 0 ≤ x / 65536 % 16777216 ∧ x / 65536 % 16777216 < 16777216 := by omega
  have h4 : 0 ≤ x / 1099511627776 := by omega
  generalize x / 4 % 2 = a at h1 ⊢
  generalize x / 8 % 8192 = b at h2 ⊢
  generalize x / 65536 % 16777216 = c at h3 ⊢
  generalize x / 1099511627776 = d at h4 ⊢
  omega
theorem pack_parts {e g lo hi : Int} (e0 : 0 ≤ e) (e1 : e ≤ 1) (g0 : 0 ≤ g) (g1 : g ≤ 8190) (l0 : 0 ≤ lo) (l1 : lo ≤ hi) (l2 : hi < 16777215) :
    (1 + 4 * e + 8 * (g + 1) + 65536 * lo + 1099511627776 * hi) % 4 = 1 ∧ (1 + 4 * e + 8 * (g + 1) + 65536 * lo + 1099511627776 * hi) / 8 % 8192 = g + 1 ∧ (1 + 4 * e + 8 * (g + 1) + 65536 * lo + 1099511627776 * hi) / 65536 % 16777216 = lo ∧ (1 + 4 * e + 8 * (g + 1) + 65536 * lo + 1099511627776 * hi) / 1099511627776 = hi := by
  omega
end Go.Proofs.YtpfjommkjkbonaaGreat
