/-
  The contract of Bytes: a script by its bytes. No condition but that there are no more than a million bytes.
-/
import Derived.Test.YtpfjommkjkbonaaGreatPlayHead
namespace Go.Proofs.YtpfjommkjkbonaaGreat
open Go.RowKit
set_option linter.unusedVariables false

/-- A script by its bytes that is done. -/
structure PBy (w : World) (l : List Int) (r : Ending) (w' : World) (T : Nat) (s so d : Int) (N : Nat) (ms : List CM) (W : World) (lx : List Thing) (yb ytb p c : Nat) (Yf : Nat → Yd) (An : List Int) (J : Nat → Nat) (g : Nat) : Prop where
  is : l = (T : Int) :: s :: so :: d :: encs ms
  good : ∀ m ∈ ms, m.Good
  few : ms.length ≤ 65536
  right : rightC T s so d = true
  lay : Lay T s N
  ret : r = .returned (.tuple #[pt yb, .slice (some ⟨g, 0, none⟩) ms.length ms.length, i64 0])
  below : Below w.heap.size w W
  run : PRn W w' lx ⟨yb, ytb, p, c, T, s, so, d, T⟩ N ms Yf An J g

set_option maxRecDepth 100000 in
set_option maxHeartbeats 8000000 in
theorem pbytes_any (A : Option Addr) (l : List Int) (cap : Nat) (w : World) (h : IsAt w A (l.map u8)) (hb : Byt l) (hc : l.length ≤ cap) (hf : l.length ≤ 1000000) :
    Calls Tryz.prog 19 #[.slice A l.length cap] w fun r w' =>
      (∃ w1 v n e, DecPost w1 w.heap.size l v n e ∧ e ≠ 0 ∧ r = .returned (.tuple #[.pointer none, .slice none 0 0, i64 e]) ∧ Below w.heap.size w w') ∨
      (∃ T s so d N ms W lx yb ytb p c Yf An J g, PBy w l r w' T s so d N ms W lx yb ytb p c Yf An J g) := by
  have HD := Lib.hid (decode_any A l cap w h hb hc hf)
  clear h hb hc hf
  go_enter Tryz.func19, Tryz.ntmps19
  go_wp2_with fail
  refine HD.out.mono ?_
  rintro r w2 ⟨v, n, e, rfl, hb2, hD⟩
  have HB2 := Lib.hid hb2
  clear hb2 HD
  cases hD with
  | short h =>
    go_wp2_with fail
    exact bodyPost_ret (v := .tuple #[.pointer none, .slice none 0 0, i64 3]) (by simp [results, Tryz.results19, go_sem]) rfl (.inl ⟨w2, _, _, 3, .short h, by decide, rfl, below_new HB2.out _⟩)
  | conf t s so d r h hr =>
    have H := Lib.hid (And.intro h hr)
    clear h hr
    go_wp2_with fail
    exact bodyPost_ret (v := .tuple #[.pointer none, .slice none 0 0, i64 1]) (by simp [results, Tryz.results19, go_sem]) rfl (.inl ⟨w2, _, _, 1, .conf t s so d r H.out.1 H.out.2, by decide, rfl, below_new HB2.out _⟩)
  | bad t s so d r n e h hr hd he =>
    have H := Lib.hid (And.intro h (And.intro hr hd))
    have e0 : (e == 0) = false := beq_false_of_ne he
    clear h hr hd
    go_wp2_with fail
    exact bodyPost_ret (v := .tuple #[.pointer none, .slice none 0 0, i64 e]) (by simp [results, Tryz.results19, go_sem]) rfl (.inl ⟨w2, _, _, e, .bad t s so d r n e H.out.1 H.out.2.1 H.out.2.2 he, he, rfl, below_new HB2.out _⟩)
  | ok t s so d r ms A1 cp h hr hd ho =>
    obtain ⟨hg, hm, rfl⟩ := hd.yes rfl
    obtain ⟨T, N, rfl, hlay, o0, o1, d0, d1⟩ := rightC_lay hr
    have H := Lib.hid (And.intro h (And.intro hr (And.intro hg (And.intro hm hlay))))
    have HI2 := Lib.hid ((IsAt.own ho).later (below_new (Below.refl _ _) (.cells #[.int .i64 T, .int .i64 s, .int .i64 so, .int .i64 d, .slice A1 ms.length cp] 29)))
    have HB3 := Lib.hid (below_new HB2.out (.cells #[.int .i64 T, .int .i64 s, .int .i64 so, .int .i64 d, .slice A1 ms.length cp] 29))
    have hm2 : ms.length < 900000 := by omega
    clear h hr hg hm hlay ho hd
    go_wp2_with fail
    refine (prun_any T s so d N A1 cp ms _ HI2.out (fun m hm => (H.out.2.2.1 m hm).2) hm2 H.out.2.2.2.2 o0 o1 d0 d1).mono ?_
    rintro r w4 ⟨W, lx, yb, ytb, p, c, Yf, An, J, g, rfl, hb, hP⟩
    have HZ := Lib.hid (below_step HB3.out hb)
    have HP := Lib.hid hP
    clear hb hP
    go_wp2_with fail
    exact bodyPost_ret (v := .tuple #[pt yb, .slice (some ⟨g, 0, none⟩) ms.length ms.length, i64 0]) (by simp [results, Tryz.results19, go_sem]) rfl (.inr ⟨T, s, so, d, N, ms, W, lx, yb, ytb, p, c, Yf, An, J, g, H.out.1, H.out.2.2.1, H.out.2.2.2.1, H.out.2.1, H.out.2.2.2.2, rfl, HZ.out, HP.out⟩)
end Go.Proofs.YtpfjommkjkbonaaGreat
