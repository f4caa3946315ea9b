/-
  WordUnpacks answers true for every number, and leaves all memory that was there as it was. No condition.
-/
import Derived.Test.YtlhacbhdajjkhaaWordCalls
import Derived.OpenShut
namespace Go.Proofs.Ytlhacbhdajjkhaa
open Go.RowKit

set_option maxHeartbeats 2000000 in
theorem walk_WordUnpacks (x : Int) (w : World) (w0 : (Lit.int .u64 x).wf = true) :
    Calls Try.prog 11 #[.int .u64 x] w fun e w' => e = .returned (.bool true) ∧ Below w.heap.size w w' := by
  have hx := bounds_u64 w0
  obtain ⟨h0, h1⟩ := hx
  clear w0
  rcases Bool.eq_false_or_eq_true (decide (x % 4 < 3)) with hd | hd
  · have hlt := of_decide_eq_true hd
    have hr : rightW (x % 4) (x / 4 % 2) (x / 8 % 8192) (x / 65536 % 16777216) (x / 1099511627776) = true := decide_eq_true (by omega)
    have hp := fun W => pack_right (x % 4) (x / 4 % 2) (x / 8 % 8192) (x / 65536 % 16777216) (x / 1099511627776) W (by omega)
    rw [show x % 4 + 4 * (x / 4 % 2) + 8 * (x / 8 % 8192) + 65536 * (x / 65536 % 16777216) + 1099511627776 * (x / 1099511627776) = x by omega] at hp
    have Hp := Lib.hid hp
    have h3 : (x % 4 == 3) = false := by simp; omega
    clear hp hlt
    go_enter Try.func11, Try.ntmps11
    go_wp2_with fail
    refine (head2_any _).mono ?_
    rintro r w1 ⟨rfl, hb1⟩
    go_wp2_with fail
    refine (unpack_any x _ h0 h1).mono ?_
    rintro r w2 ⟨rfl, hb2⟩
    have hB := Below.refl ((w2.alloc (.cells #[.int .i64 (x % 4), .int .i64 (x / 4 % 2), .int .i64 (x / 8 % 8192), .int .i64 (x / 65536 % 16777216), .int .i64 (x / 1099511627776)] 38)).alloc (.cells #[.int .i64 (x % 4), .int .i64 (x / 4 % 2), .int .i64 (x / 8 % 8192), .int .i64 (x / 65536 % 16777216), .int .i64 (x / 1099511627776)] 38)).heap.size ((w2.alloc (.cells #[.int .i64 (x % 4), .int .i64 (x / 4 % 2), .int .i64 (x / 8 % 8192), .int .i64 (x / 65536 % 16777216), .int .i64 (x / 1099511627776)] 38)).alloc (.cells #[.int .i64 (x % 4), .int .i64 (x / 4 % 2), .int .i64 (x / 8 % 8192), .int .i64 (x / 65536 % 16777216), .int .i64 (x / 1099511627776)] 38))
    have hW : Below w.heap.size w ((w2.alloc (.cells #[.int .i64 (x % 4), .int .i64 (x / 4 % 2), .int .i64 (x / 8 % 8192), .int .i64 (x / 65536 % 16777216), .int .i64 (x / 1099511627776)] 38)).alloc (.cells #[.int .i64 (x % 4), .int .i64 (x / 4 % 2), .int .i64 (x / 8 % 8192), .int .i64 (x / 65536 % 16777216), .int .i64 (x / 1099511627776)] 38)) := below_new (below_new (below_step hb1 hb2) _) _
    clear hb1 hb2
    go_wp2_with (first | (go_at_call 26; refine (wright_any _ _ _ _ _ _).mono ?_; rintro e w' ⟨rfl, hb'⟩; (first | replace hB := below_step hB hb' | replace hB := below_step (below_new hB _) hb'); clear hb'; (try clear hk); have hk := below_rule hB) | (go_at_call 24; refine (Hp.out _).mono ?_; rintro e w' ⟨rfl, hb'⟩; (first | replace hB := below_step hB hb' | replace hB := below_step (below_new hB _) hb'); clear hb'; (try clear hk); have hk := below_rule hB))
    go_ret
    exact ⟨rfl, below_step hW hB⟩
  · have hlt := of_decide_eq_false hd
    have hr : rightW (x % 4) (x / 4 % 2) (x / 8 % 8192) (x / 65536 % 16777216) (x / 1099511627776) = false := decide_eq_false (by omega)
    have hp := fun W => pack_wrong (x % 4) (x / 4 % 2) (x / 8 % 8192) (x / 65536 % 16777216) (x / 1099511627776) W hr
    have Hp := Lib.hid hp
    have h3 : (x % 4 == 3) = true := by simp; omega
    clear hp hlt
    go_enter Try.func11, Try.ntmps11
    go_wp2_with fail
    refine (head2_any _).mono ?_
    rintro r w1 ⟨rfl, hb1⟩
    go_wp2_with fail
    refine (unpack_any x _ h0 h1).mono ?_
    rintro r w2 ⟨rfl, hb2⟩
    have hB := Below.refl ((w2.alloc (.cells #[.int .i64 (x % 4), .int .i64 (x / 4 % 2), .int .i64 (x / 8 % 8192), .int .i64 (x / 65536 % 16777216), .int .i64 (x / 1099511627776)] 38)).alloc (.cells #[.int .i64 (x % 4), .int .i64 (x / 4 % 2), .int .i64 (x / 8 % 8192), .int .i64 (x / 65536 % 16777216), .int .i64 (x / 1099511627776)] 38)).heap.size ((w2.alloc (.cells #[.int .i64 (x % 4), .int .i64 (x / 4 % 2), .int .i64 (x / 8 % 8192), .int .i64 (x / 65536 % 16777216), .int .i64 (x / 1099511627776)] 38)).alloc (.cells #[.int .i64 (x % 4), .int .i64 (x / 4 % 2), .int .i64 (x / 8 % 8192), .int .i64 (x / 65536 % 16777216), .int .i64 (x / 1099511627776)] 38))
    have hW : Below w.heap.size w ((w2.alloc (.cells #[.int .i64 (x % 4), .int .i64 (x / 4 % 2), .int .i64 (x / 8 % 8192), .int .i64 (x / 65536 % 16777216), .int .i64 (x / 1099511627776)] 38)).alloc (.cells #[.int .i64 (x % 4), .int .i64 (x / 4 % 2), .int .i64 (x / 8 % 8192), .int .i64 (x / 65536 % 16777216), .int .i64 (x / 1099511627776)] 38)) := below_new (below_new (below_step hb1 hb2) _) _
    clear hb1 hb2
    go_wp2_with (first | (go_at_call 26; refine (wright_any _ _ _ _ _ _).mono ?_; rintro e w' ⟨rfl, hb'⟩; (first | replace hB := below_step hB hb' | replace hB := below_step (below_new hB _) hb'); clear hb'; (try clear hk); have hk := below_rule hB) | (go_at_call 24; refine (Hp.out _).mono ?_; rintro e w' ⟨rfl, hb'⟩; (first | replace hB := below_step hB hb' | replace hB := below_step (below_new hB _) hb'); clear hb'; (try clear hk); have hk := below_rule hB))
    go_ret
    exact ⟨rfl, below_step hW hB⟩

end Go.Proofs.Ytlhacbhdajjkhaa
