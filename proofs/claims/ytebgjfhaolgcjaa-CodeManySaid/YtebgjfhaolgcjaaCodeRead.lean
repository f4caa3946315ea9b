/-
  Contracts of what reads moves out of bytes: a number, a call, a move. No condition but that bytes are from 0 to 255, and that there are no more than a million.
-/
import Derived.Test.YtebgjfhaolgcjaaCodeRow
import Derived.Test.YtebgjfhaolgcjaaCodeParse
import Derived.Test.YtebgjfhaolgcjaaRegion
import Derived.Test.YtebgjfhaolgcjaaBits
import Derived.Test.YtebgjfhaolgcjaaOrAdd
import Derived.Test.YtebgjfhaolgcjaaRegionS
import Derived.Deep.DeepCutAuto
namespace Go.Proofs.Ytebgjfhaolgcjaa
open Go.RowKit
set_option linter.unusedVariables false

def Byt (l : List Int) : Prop := ∀ b ∈ l, 0 ≤ b ∧ b ≤ 255
/-- A reader in block rb. -/
abbrev rdL (A : Option Addr) (l : List Int) (cap at' : Nat) (sh : Bool) : List Value := [.slice A l.length cap, i64 at', .bool sh]
/-- What is read. -/
structure RdIn (w : World) (rb : Nat) (A : Option Addr) (l : List Int) (cap at' : Nat) (sh : Bool) : Prop where
  obj : IsObj w rb (rdL A l cap at' sh)
  row : IsAt w A (l.map u8)
  cap : l.length ≤ cap
  apart : ∀ b off, A = some ⟨b, off, none⟩ → b ≠ rb
  le : at' ≤ l.length
  byt : Byt l
  few : l.length ≤ 1000000
section
variable {w w' : World} {rb : Nat} {A : Option Addr} {l : List Int} {cap at' : Nat} {sh : Bool}
theorem RdIn.later (h : RdIn w rb A l cap at' sh) (e : Below w.heap.size w w') : RdIn w' rb A l cap at' sh :=
  ⟨h.obj.later e, h.row.later e, h.cap, h.apart, h.le, h.byt, h.few⟩
theorem RdIn.keep {T : Nat → Prop} (h : RdIn w rb A l cap at' sh) (k : Keep T w w') (h1 : ¬ T rb) (h2 : ∀ b off, A = some ⟨b, off, none⟩ → 0 < l.length → ¬ T b) : RdIn w' rb A l cap at' sh :=
  ⟨h.obj.keep k h1, fun hp => by
    obtain ⟨b, off, g1, g2, g3⟩ := h.row hp
    rw [List.length_map] at hp
    exact ⟨b, off, g1, Nat.lt_of_lt_of_le g2 k.size, fun j u hj => k.cell (g3 j u hj) (h2 b off g1 hp)⟩, h.cap, h.apart, h.le, h.byt, h.few⟩
theorem RdIn.old (h : RdIn w rb A l cap at' sh) : ∀ b off, A = some ⟨b, off, none⟩ → 0 < l.length → b < w.heap.size := fun b off hA hp => by
  obtain ⟨b', off', g1, g2, _⟩ := h.row (by rw [List.length_map]; exact hp)
  rw [hA] at g1
  cases g1
  exact g2
theorem RdIn.turn (h : RdIn w rb A l cap at' sh) {a2 : Nat} {s2 : Bool} (k : Keep (· = rb) w w') (ho : IsObj w' rb (rdL A l cap a2 s2)) (hl : a2 ≤ l.length) : RdIn w' rb A l cap a2 s2 :=
  ⟨ho, fun hp => by
    obtain ⟨b, off, h1, h2, h3⟩ := h.row hp
    exact ⟨b, off, h1, Nat.lt_of_lt_of_le h2 k.size, fun j u hj => k.cell (h3 j u hj) (h.apart b off h1)⟩, h.cap, h.apart, hl, h.byt, h.few⟩
end
/-- What comes of reading so many bytes. -/
def NumIs (w : World) (rb : Nat) (A : Option Addr) (l : List Int) (cap at' : Nat) (sh : Bool) (n : Nat) (x : Int) (w' : World) : Prop :=
  Keep (· = rb) w w' ∧ ((l.length < at' + n ∧ x = 0 ∧ RdIn w' rb A l cap at' true) ∨ (at' + n ≤ l.length ∧ x = un8 ((l.drop at').take n) ∧ RdIn w' rb A l cap (at' + n) sh))

theorem or_byte {X b : Int} {i : Nat} (hi : i < 8) (x0 : 0 ≤ X) (x1 : X < 256 ^ i) (b0 : 0 ≤ b) (b1 : b ≤ 255) : bits .or .u64 X (IntKind.u64.wrap (b * 2 ^ (8 * i))) = X + b * 256 ^ i := by
  have e : (2 : Int) ^ (8 * i) = 256 ^ i := by rw [Int.pow_mul]; rfl
  have hp : (256 : Int) ^ i ≤ 72057594037927936 ∧ 1 ≤ (256 : Int) ^ i := by
    rcases (by omega : i = 0 ∨ i = 1 ∨ i = 2 ∨ i = 3 ∨ i = 4 ∨ i = 5 ∨ i = 6 ∨ i = 7) with rfl | rfl | rfl | rfl | rfl | rfl | rfl | rfl <;> exact ⟨by decide, by decide⟩
  have hm : b * 256 ^ i ≤ 255 * 72057594037927936 := Int.mul_le_mul b1 hp.1 (by omega) (by decide)
  have hm0 : 0 ≤ b * 256 ^ i := Int.mul_nonneg b0 (by omega)
  have hw : IntKind.u64.wrap (b * 2 ^ (8 * i)) = b * 256 ^ i := by rw [IntKind.wrap_u64, e]; omega
  rw [hw]
  exact or_add8 X b (256 ^ i) (8 * i) (by rw [Int.natCast_pow]; exact e.symm) x0 x1 b0 (by omega) (by omega)
theorem un8_take {l : List Int} {at' i : Nat} {b : Int} (h : l[at' + i]? = some b) : un8 ((l.drop at').take (i + 1)) = un8 ((l.drop at').take i) + b * 256 ^ i :=
  un8_take_succ _ i b (by rw [List.getElem?_drop]; exact h)
theorem un8_lt {l : List Int} (h : Byt l) (a i : Nat) (hl : a + i ≤ l.length) : 0 ≤ un8 ((l.drop a).take i) ∧ un8 ((l.drop a).take i) < 256 ^ i := by
  have h1 := un8_fit ((l.drop a).take i) (fun b hb => h b (List.mem_of_mem_drop (List.mem_of_mem_take hb)))
  rw [List.length_take, List.length_drop, Nat.min_eq_left (by omega)] at h1
  exact h1

set_option maxRecDepth 100000 in
set_option maxHeartbeats 4000000 in
theorem number_any (rb : Nat) (A : Option Addr) (l : List Int) (cap at' n : Nat) (sh : Bool) (w : World) (h : RdIn w rb A l cap at' sh) (hn : n ≤ 8) :
    Calls Try.prog 17 #[pt rb, i64 n] w fun r w' => ∃ x, r = .returned (u64 x) ∧ NumIs w rb A l cap at' sh n x w' := by
  have H := Lib.hid h
  have hle := h.le
  have hfew := h.few
  have c0 := h.obj.at' 0 _ rfl
  have c1 := h.obj.at' 1 _ rfl
  have c2 := h.obj.at' 2 _ rfl
  have f0 := h.obj.fz 0
  have f1 := h.obj.fz 1
  have f2 := h.obj.fz 2
  have hlt := h.obj.lt
  clear h
  obtain ⟨dl, hdl⟩ : ∃ dl : Nat, l.length = at' + dl := ⟨l.length - at', by omega⟩
  have hwr : IntKind.i64.wrap ((l.length : Int) - (at' : Int)) = (dl : Int) := by rw [IntWalk.i64_in _ (by omega)]; omega
  have HDL := Lib.hid hdl
  clear hdl
  rcases Nat.lt_or_ge dl n with hs | hs
  · have hs' : (dl : Int) < (n : Int) := by omega
    go_enter Try.func17, Try.ntmps17
    go_wp2_with fail
    refine wp_region_seq ((0, true) :: (1, true) :: (2, true) :: (3, true) :: (4, true) :: (5, true) :: (6, true) :: (7, true) :: (8, true) :: (9, true) :: (10, true) :: (11, true) :: []) (by kernel_rfl) (by kernel_rfl) (by kernel_rfl) (by decide) (fun _ _ _ _ _ h => h) (fun hHeld => ?_)
    repeat (first
      | (refine seq_take (v := ?_) rfl ?_ ?_ ?_; rotate_left 1; rfl; (focus (intro wS hSw; have hk := below_rule hSw; go_simp; first | done | with_reducible rfl)); (try simp only [Act.put, List.setIfInBounds_toArray, List.set_cons_zero, List.set_cons_succ]))
      | (refine seq_skip rfl ?_ ?_; rfl; (try simp only [Act.put, List.setIfInBounds_toArray, List.set_cons_zero, List.set_cons_succ]))
      | (refine seq_run rfl (fun K hK => ?_); go_simp; (try skip); (try go_wp2_with fail); refine hK.out _ _ ?_ ?_; (focus (first | exact below_step hHeld hb' | exact below_new hHeld _ | exact hHeld)); (try clear hb'); clear hHeld hK K; intro hHeld; (try simp only [Act.put, List.setIfInBounds_toArray, List.set_cons_zero, List.set_cons_succ])))
    first | refine seq_done ?_ | skip
    go_wp2_with fail
    go_ret
    have h1 := (H.out.obj.later (Below.refl w.heap.size w).drew).set 2 (.bool true)
    have hk : Keep (· = rb) w (w.drew.setCell ⟨rb, 2, none⟩ (.bool true)) := Keep.setCell (T := (· = rb)) (Keep.drew (Keep.refl _ _)) ⟨rb, 2, none⟩ rfl _
    exact ⟨0, rfl, hk, .inl ⟨by have := HDL.out; omega, rfl, H.out.turn hk h1 H.out.le⟩⟩
  · have hs' : ¬ (dl : Int) < (n : Int) := by omega
    go_enter Try.func17, Try.ntmps17
    go_wp2_with fail
    refine wp_region_seq ((0, true) :: (1, true) :: (2, true) :: (3, true) :: (4, true) :: (5, true) :: (6, true) :: (7, true) :: (8, true) :: (9, true) :: (10, true) :: (11, true) :: []) (by kernel_rfl) (by kernel_rfl) (by kernel_rfl) (by decide) (fun _ _ _ _ _ h => h) (fun hHeld => ?_)
    repeat (first
      | (refine seq_take (v := ?_) rfl ?_ ?_ ?_; rotate_left 1; rfl; (focus (intro wS hSw; have hk := below_rule hSw; go_simp; first | done | with_reducible rfl)); (try simp only [Act.put, List.setIfInBounds_toArray, List.set_cons_zero, List.set_cons_succ]))
      | (refine seq_skip rfl ?_ ?_; rfl; (try simp only [Act.put, List.setIfInBounds_toArray, List.set_cons_zero, List.set_cons_succ]))
      | (refine seq_run rfl (fun K hK => ?_); go_simp; (try skip); (try go_wp2_with fail); refine hK.out _ _ ?_ ?_; (focus (first | exact below_step hHeld hb' | exact below_new hHeld _ | exact hHeld)); (try clear hb'); clear hHeld hK K; intro hHeld; (try simp only [Act.put, List.setIfInBounds_toArray, List.set_cons_zero, List.set_cons_succ])))
    first | refine seq_done ?_ | skip
    go_wp2_with fail
    try rw [decide_eq_false (show ¬ dl < n by omega)]
    go_loopw [5, 23] (fun xv iv wr => ∃ i : Nat, i ≤ n ∧ xv = .int .u64 (un8 ((l.drop at').take i)) ∧ iv = .int .i64 i ∧ Hid (Below w.heap.size w wr)) (fun _ iv _ => n - (RowKit.intOf iv).toNat)
    case atStart => exact ⟨0, Nat.zero_le _, rfl, rfl, Lib.hid (Below.refl _ _).drew⟩
    case round =>
      clear c0 c1 c2 f0 f1 f2
      obtain ⟨i, hi, rfl, rfl, HB⟩ := hrel
      have H1 := Lib.hid (H.out.later HB.out)
      have c0 := H1.out.obj.at' 0 _ rfl
      have c1 := H1.out.obj.at' 1 _ rfl
      have c2 := H1.out.obj.at' 2 _ rfl
      have f0 := H1.out.obj.fz 0
      have f1 := H1.out.obj.fz 1
      have f2 := H1.out.obj.fz 2
      rcases Nat.lt_or_ge i n with hin | hin
      · have hin' : (i : Int) < (n : Int) := by omega
        have hidx : at' + i < l.length := by have := HDL.out; omega
        obtain ⟨b, hb⟩ : ∃ b, l[at' + i]? = some b := ⟨_, List.getElem?_eq_getElem hidx⟩
        obtain ⟨bb, off, hA, hbl, hat⟩ := H1.out.row (by rw [List.length_map]; omega)
        have hcell := hat (at' + i) (u8 b) (by rw [List.getElem?_map, hb]; rfl)
        have hby := H1.out.byt b (List.mem_of_getElem? hb)
        have hun := un8_lt H1.out.byt at' i (by omega)
        have hor := or_byte (X := un8 ((l.drop at').take i)) (b := b) (by omega : i < 8) hun.1 hun.2 hby.1 hby.2
        rw [← un8_take hb, show 8 * i = (8 * (i : Int)).toNat by omega] at hor
        obtain ⟨ix, hixe⟩ : ∃ ix, ix = at' + i := ⟨_, rfl⟩
        have hwi : IntKind.i64.wrap ((at' : Int) + (i : Int)) = (ix : Int) := by rw [IntWalk.i64_in _ (by omega)]; omega
        rw [← hixe] at hcell hidx
        have hix : (ix : Int) < (l.length : Int) := by omega
        have hub : IntKind.u64.wrap b = b := by rw [IntKind.wrap_u64]; omega
        have h8i : IntKind.i64.wrap (8 * (i : Int)) = 8 * (i : Int) := IntWalk.i64_in _ (by omega)
        clear hixe
        have HUN := Lib.hid hun
        have HA := Lib.hid hA
        clear hat hun hby hb
        generalize un8 ((l.drop at').take i) = X at *
        obtain ⟨X1, HX2⟩ : ∃ X1, Hid (un8 ((l.drop at').take (i + 1)) = X1) := ⟨_, Lib.hid rfl⟩
        rw [HX2.out] at hor
        subst hA
        go_wp2_with fail
        refine wp_region_seq ((0, true) :: (1, true) :: (2, true) :: (3, true) :: (4, true) :: (5, true) :: (6, true) :: (7, true) :: (8, true) :: (9, true) :: (10, true) :: (11, true) :: (12, true) :: (13, true) :: (14, true) :: (15, true) :: (16, true) :: (17, true) :: (18, true) :: []) (by kernel_rfl) (by kernel_rfl) (by kernel_rfl) (by decide) (fun _ _ _ _ _ h => h) (fun hHeld => ?_)
        repeat (first
          | (refine seq_take (v := ?_) rfl ?_ ?_ ?_; rotate_left 1; rfl; (focus (intro wS hSw; have hk := below_rule hSw; go_simp; first | done | with_reducible rfl)); (try simp only [Act.put, List.setIfInBounds_toArray, List.set_cons_zero, List.set_cons_succ]))
          | (refine seq_skip rfl ?_ ?_; rfl; (try simp only [Act.put, List.setIfInBounds_toArray, List.set_cons_zero, List.set_cons_succ]))
          | (refine seq_run rfl (fun K hK => ?_); go_simp; (try skip); (try go_wp2_with fail); refine hK.out _ _ ?_ ?_; (focus (first | exact below_step hHeld hb' | exact below_new hHeld _ | exact hHeld)); (try clear hb'); clear hHeld hK K; intro hHeld; (try simp only [Act.put, List.setIfInBounds_toArray, List.set_cons_zero, List.set_cons_succ])))
        first | refine seq_done ?_ | skip
        have HB2 := Lib.hid (below_step HB.out hHeld)
        go_wp2_with fail
        go_roundw
        case rel => exact ⟨i + 1, by omega, by rw [HX2.out], by go_num, HB2⟩
        case measure => first | omega | (simp [RowKit.intOf]; done) | (simp [RowKit.intOf]; omega)
      · obtain rfl : i = n := by omega
        have hnn : ¬ (i : Int) < (i : Int) := by omega
        have hwi : IntKind.i64.wrap ((at' : Int) + (i : Int)) = ((at' + i : Nat) : Int) := by rw [IntWalk.i64_in _ (by omega)]; omega
        have HO := Lib.hid H1.out.obj
        clear H1
        go_wp2_with fail
        go_ret
        have h1 := HO.out.set 1 (i64 ((at' + i : Nat) : Int))
        have hk : Keep (· = rb) w (wr.setCell ⟨rb, 1, none⟩ (i64 ((at' + i : Nat) : Int))) := Keep.setCell (T := (· = rb)) (Keep.of_below HB.out) ⟨rb, 1, none⟩ rfl _
        exact ⟨_, rfl, hk, .inr ⟨by have := HDL.out; omega, rfl, H.out.turn hk h1 (by have := HDL.out; omega)⟩⟩

/-- A number of one byte. -/
theorem small_any (rb : Nat) (A : Option Addr) (l : List Int) (cap at' : Nat) (sh : Bool) (w : World) (h : RdIn w rb A l cap at' sh) :
    Calls Try.prog 15 #[pt rb] w fun r w' => ∃ x, r = .returned (i64 x) ∧ NumIs w rb A l cap at' sh 1 x w' := by
  have H := Lib.hid h
  clear h
  go_enter Try.func15, Try.ntmps15
  go_wp2_with fail
  refine (number_any rb A l cap at' 1 sh _ H.out (by decide)).mono ?_
  rintro r w' ⟨x, rfl, hN⟩
  have hx : IntKind.i64.wrap x = x := by
    obtain ⟨_, ⟨_, rfl, _⟩ | ⟨hle, hx, _⟩⟩ := hN
    · rfl
    · have h1 := un8_lt H.out.byt at' 1 hle
      rw [← hx] at h1
      rw [Int.pow_one] at h1
      exact IntWalk.i64_in _ (by omega)
  have HN := Lib.hid hN
  clear hN
  go_wp2_with fail
  go_ret
  exact ⟨x, rfl, HN.out⟩
/-- What comes of reading a call. -/
def CallIs (w : World) (rb : Nat) (A : Option Addr) (l : List Int) (cap at' : Nat) (sh : Bool) (ck ce v s : Int) (w' : World) : Prop :=
  Keep (· = rb) w w' ∧ ∃ a2 s2, RdIn w' rb A l cap a2 s2 ∧ ((s2 = true ∧ (sh = true ∨ rdCall (l.drop at') = none)) ∨ (s2 = sh ∧ ∃ n, rdCall (l.drop at') = some (ck, ce, v, s, n) ∧ a2 = at' + n))

set_option maxHeartbeats 4000000 in
theorem rcall_any (rb : Nat) (A : Option Addr) (l : List Int) (cap at' : Nat) (sh : Bool) (w : World) (h : RdIn w rb A l cap at' sh) :
    Calls Try.prog 16 #[pt rb] w fun r w' => ∃ ck ce v s, r = .returned (.agg #[.int .i64 ck, .int .i64 ce, .int .u64 v, .int .i64 s]) ∧ CallIs w rb A l cap at' sh ck ce v s w' := by
  have hk0 : Keep (· = rb) w (w.alloc (.cells #[.int .i64 0, .int .i64 0, .int .u64 0, .int .i64 0] 35)) := Keep.of_below (below_new (Below.refl _ _) _)
  have H := Lib.hid (h.later (below_new (Below.refl _ _) (.cells #[.int .i64 0, .int .i64 0, .int .u64 0, .int .i64 0] 35)))
  have HK := Lib.hid hk0
  have HO := Lib.hid (IsObj.made w [.int .i64 0, .int .i64 0, .int .u64 0, .int .i64 0] 35)
  have HLT := Lib.hid h.obj.lt
  have HOLD := Lib.hid h.old
  clear h hk0
  go_enter Try.func16, Try.ntmps16
  go_wp2_with fail
  generalize (w.alloc (.cells #[.int .i64 0, .int .i64 0, .int .u64 0, .int .i64 0] 35)) = w1 at H HK HO ⊢
  refine (small_any rb A l cap at' sh _ H.out).mono ?_
  rintro r w2 ⟨how, rfl, hN⟩
  obtain ⟨k2, hN2⟩ := hN
  have hne : ∀ q, q = rb → q ≠ w.heap.size := fun q hq => by have := HLT.out; omega
  have HK2 := Lib.hid (HK.out.trans k2)
  have HO2 := Lib.hid (HO.out.keep k2 (fun e => hne _ e rfl))
  have HNE := Lib.hid hne
  obtain ⟨a2, s2, hR, hW⟩ : ∃ a2 s2, RdIn w2 rb A l cap a2 s2 ∧ ((s2 = true ∧ how = 0 ∧ l.length < at' + 1) ∨ (s2 = sh ∧ l[at']? = some how ∧ a2 = at' + 1)) := by
    rcases hN2 with ⟨h1, h2, h3⟩ | ⟨h1, h2, h3⟩
    · exact ⟨_, _, h3, .inl ⟨rfl, h2, h1⟩⟩
    · refine ⟨_, _, h3, .inr ⟨rfl, ?_, rfl⟩⟩
      have hx : at' < l.length := by omega
      rw [h2, List.getElem?_eq_getElem hx, List.drop_eq_getElem_cons hx]
      show some l[at'] = some (l[at'] + 256 * un8 [])
      rw [show un8 [] = 0 from rfl]
      simp
  have hh : 0 ≤ how ∧ how ≤ 255 := by
    rcases hW with ⟨_, rfl, _⟩ | ⟨_, h1, _⟩
    · omega
    · exact H.out.byt _ (List.mem_of_getElem? h1)
  have HR := Lib.hid hR
  have HW := Lib.hid hW
  clear hR hW hN2 k2 hne H HK HO
  obtain ⟨ck, hck, hckE⟩ : ∃ ck, how.tmod 2 = ck ∧ ck = how % 2 := ⟨_, rfl, Int.tmod_eq_emod_of_nonneg hh.1⟩
  obtain ⟨ce, hce, hceE⟩ : ∃ ce, how.tdiv 2 = ce ∧ ce = how / 2 := ⟨_, rfl, Int.tdiv_eq_ediv_of_nonneg hh.1⟩
  have hwce : wrap64 ce = ce := by unfold wrap64; omega
  have HCK := Lib.hid hckE
  have HCE := Lib.hid hceE
  have HC := Lib.hid (IsObj.made w2 [.int .i64 ck, .int .i64 ce, .int .u64 0, .int .i64 0] 35)
  have hbn := below_new (Below.refl w2.heap.size w2) (.cells #[.int .i64 ck, .int .i64 ce, .int .u64 0, .int .i64 0] 35)
  have HR3 := Lib.hid (HR.out.later hbn)
  have HO3 := Lib.hid (HO2.out.later hbn)
  have HK3 := Lib.hid (HK2.out.trans (Keep.of_below hbn))
  have HLT3 := Lib.hid (show rb < w2.heap.size ∧ w.heap.size < w2.heap.size from ⟨HR.out.obj.lt, HO2.out.lt⟩)
  clear hbn HR HK2 HO2 hckE hceE hh
  by_cases c0 : ck = 0
  · have p0 : (ck == 0) = true := by simp [c0]
    have C0 := Lib.hid c0
    clear c0
    go_wp2_with fail
    refine (number_any rb A l cap a2 8 s2 _ HR3.out (by decide)).mono ?_
    rintro r w4 ⟨x, rfl, k4, hN4⟩
    have HK4 := Lib.hid (HK3.out.trans k4)
    have HO4 := Lib.hid (HO3.out.keep k4 (fun e => HNE.out _ e rfl))
    have HC4 := Lib.hid (HC.out.keep k4 (fun e => by have := HLT3.out; omega))
    have HN4 := Lib.hid hN4
    clear k4 hN4 HK3 HO3 HC HR3
    have q0 := HC4.out.at' 0 _ rfl
    have q1 := HC4.out.at' 1 _ rfl
    have q2 := HC4.out.at' 2 _ rfl
    have q3 := HC4.out.at' 3 _ rfl
    have f0 := HC4.out.fz 2
    have f3 := HC4.out.fz 3
    have o0 := HO4.out.at' 0 _ rfl
    have o1 := HO4.out.at' 1 _ rfl
    have o2 := HO4.out.at' 2 _ rfl
    have o3 := HO4.out.at' 3 _ rfl
    have g0 := HO4.out.fz 0
    have g1 := HO4.out.fz 1
    have g2 := HO4.out.fz 2
    have g3 := HO4.out.fz 3
    have hl1 := HC4.out.lt
    have hl2 := HO4.out.lt
    have hl3 : w.heap.size ≠ w2.heap.size := by have := HLT3.out; omega
    go_wp2_with fail
    have hk5 : Keep (fun i => i = w.heap.size ∨ i = w2.heap.size) w4 (((((w4.setCell ⟨w2.heap.size, 2, none⟩ (.int .u64 x)).setCell ⟨w.heap.size, 0, none⟩ (.int .i64 ck)).setCell ⟨w.heap.size, 1, none⟩ (.int .i64 ce)).setCell ⟨w.heap.size, 2, none⟩ (.int .u64 x)).setCell ⟨w.heap.size, 3, none⟩ (.int .i64 0)) :=
      Keep.setCell (T := fun i => i = w.heap.size ∨ i = w2.heap.size) (Keep.setCell (T := fun i => i = w.heap.size ∨ i = w2.heap.size) (Keep.setCell (T := fun i => i = w.heap.size ∨ i = w2.heap.size) (Keep.setCell (T := fun i => i = w.heap.size ∨ i = w2.heap.size) (Keep.setCell (T := fun i => i = w.heap.size ∨ i = w2.heap.size) (Keep.refl _ _) ⟨w2.heap.size, 2, none⟩ (.inr rfl) _) ⟨w.heap.size, 0, none⟩ (.inl rfl) _) ⟨w.heap.size, 1, none⟩ (.inl rfl) _) ⟨w.heap.size, 2, none⟩ (.inl rfl) _) ⟨w.heap.size, 3, none⟩ (.inl rfl) _
    have ho5 := ((((HO4.out.other (a := w2.heap.size) 2 (.int .u64 x) hl3.symm).set 0 (.int .i64 ck)).set 1 (.int .i64 ce)).set 2 (.int .u64 x)).set 3 (.int .i64 0)
    generalize (((((w4.setCell ⟨w2.heap.size, 2, none⟩ (.int .u64 x)).setCell ⟨w.heap.size, 0, none⟩ (.int .i64 ck)).setCell ⟨w.heap.size, 1, none⟩ (.int .i64 ce)).setCell ⟨w.heap.size, 2, none⟩ (.int .u64 x)).setCell ⟨w.heap.size, 3, none⟩ (.int .i64 0)) = w5 at hk5 ho5 ⊢
    have r0 := ho5.at' 0 _ rfl
    have r1 := ho5.at' 1 _ rfl
    have r2 := ho5.at' 2 _ rfl
    have r3 := ho5.at' 3 _ rfl
    refine bodyPost_ret (v := .agg #[.int .i64 ck, .int .i64 ce, .int .u64 x, .int .i64 0]) (by simp [results, Try.results16, go_sem, r0, r1, r2, r3]) rfl ⟨ck, ce, x, 0, rfl, HK4.out.then' hk5 (fun i hi => .inr (by have := HLT3.out; omega)), ?_⟩
    have rd : ∀ {a3 s3}, RdIn w4 rb A l cap a3 s3 → RdIn w5 rb A l cap a3 s3 := fun {a3 s3} hr => hr.keep hk5 (fun hh => by have := HLT.out; have := HLT3.out; omega) (fun b off hA hp hh => by have := HOLD.out b off hA hp; have := HLT3.out; omega)
    have h2 : how % 2 = 0 := by have := HCK.out; have := C0.out; omega
    rcases HW.out with ⟨hs, hh, hlen⟩ | ⟨hs, hl, ha⟩
    · subst hs
      have hnone : rdCall (l.drop at') = none := by rw [List.drop_of_length_le (by omega)]; rfl
      rcases HN4.out with ⟨n1, n2, n3⟩ | ⟨n1, n2, n3⟩
      · exact ⟨_, _, rd n3, .inl ⟨rfl, .inr hnone⟩⟩
      · exact ⟨_, _, rd n3, .inl ⟨rfl, .inr hnone⟩⟩
    · subst hs ha
      have hx := (List.getElem?_eq_some_iff.1 hl).1
      have hd : l.drop at' = how :: l.drop (at' + 1) := by
        rw [List.drop_eq_getElem_cons hx]
        rw [List.getElem?_eq_getElem hx, Option.some.injEq] at hl
        rw [hl]
      have hlen : (l.drop (at' + 1)).length = l.length - (at' + 1) := List.length_drop
      rcases HN4.out with ⟨n1, n2, n3⟩ | ⟨n1, n2, n3⟩
      · refine ⟨_, _, rd n3, .inl ⟨rfl, .inr ?_⟩⟩
        rw [hd]
        unfold rdCall
        dsimp only
        rw [if_pos h2, if_neg (by omega)]
      · refine ⟨_, _, rd n3, .inr ⟨rfl, 9, ?_, rfl⟩⟩
        rw [hd, HCK.out, HCE.out, n2]
        unfold rdCall
        dsimp only
        rw [if_pos h2, if_pos (by omega)]
  · have p0 : (ck == 0) = false := by simp [c0]
    have C0 := Lib.hid c0
    clear c0
    go_wp2_with fail
    refine (small_any rb A l cap a2 s2 _ HR3.out).mono ?_
    rintro r w4 ⟨x, rfl, k4, hN4⟩
    have HK4 := Lib.hid (HK3.out.trans k4)
    have HO4 := Lib.hid (HO3.out.keep k4 (fun e => HNE.out _ e rfl))
    have HC4 := Lib.hid (HC.out.keep k4 (fun e => by have := HLT3.out; omega))
    have HN4 := Lib.hid hN4
    clear k4 hN4 HK3 HO3 HC HR3
    have q0 := HC4.out.at' 0 _ rfl
    have q1 := HC4.out.at' 1 _ rfl
    have q2 := HC4.out.at' 2 _ rfl
    have q3 := HC4.out.at' 3 _ rfl
    have f0 := HC4.out.fz 2
    have f3 := HC4.out.fz 3
    have o0 := HO4.out.at' 0 _ rfl
    have o1 := HO4.out.at' 1 _ rfl
    have o2 := HO4.out.at' 2 _ rfl
    have o3 := HO4.out.at' 3 _ rfl
    have g0 := HO4.out.fz 0
    have g1 := HO4.out.fz 1
    have g2 := HO4.out.fz 2
    have g3 := HO4.out.fz 3
    have hl1 := HC4.out.lt
    have hl2 := HO4.out.lt
    have hl3 : w.heap.size ≠ w2.heap.size := by have := HLT3.out; omega
    go_wp2_with fail
    have hk5 : Keep (fun i => i = w.heap.size ∨ i = w2.heap.size) w4 (((((w4.setCell ⟨w2.heap.size, 3, none⟩ (.int .i64 x)).setCell ⟨w.heap.size, 0, none⟩ (.int .i64 ck)).setCell ⟨w.heap.size, 1, none⟩ (.int .i64 ce)).setCell ⟨w.heap.size, 2, none⟩ (.int .u64 0)).setCell ⟨w.heap.size, 3, none⟩ (.int .i64 x)) :=
      Keep.setCell (T := fun i => i = w.heap.size ∨ i = w2.heap.size) (Keep.setCell (T := fun i => i = w.heap.size ∨ i = w2.heap.size) (Keep.setCell (T := fun i => i = w.heap.size ∨ i = w2.heap.size) (Keep.setCell (T := fun i => i = w.heap.size ∨ i = w2.heap.size) (Keep.setCell (T := fun i => i = w.heap.size ∨ i = w2.heap.size) (Keep.refl _ _) ⟨w2.heap.size, 3, none⟩ (.inr rfl) _) ⟨w.heap.size, 0, none⟩ (.inl rfl) _) ⟨w.heap.size, 1, none⟩ (.inl rfl) _) ⟨w.heap.size, 2, none⟩ (.inl rfl) _) ⟨w.heap.size, 3, none⟩ (.inl rfl) _
    have ho5 := ((((HO4.out.other (a := w2.heap.size) 3 (.int .i64 x) hl3.symm).set 0 (.int .i64 ck)).set 1 (.int .i64 ce)).set 2 (.int .u64 0)).set 3 (.int .i64 x)
    generalize (((((w4.setCell ⟨w2.heap.size, 3, none⟩ (.int .i64 x)).setCell ⟨w.heap.size, 0, none⟩ (.int .i64 ck)).setCell ⟨w.heap.size, 1, none⟩ (.int .i64 ce)).setCell ⟨w.heap.size, 2, none⟩ (.int .u64 0)).setCell ⟨w.heap.size, 3, none⟩ (.int .i64 x)) = w5 at hk5 ho5 ⊢
    have r0 := ho5.at' 0 _ rfl
    have r1 := ho5.at' 1 _ rfl
    have r2 := ho5.at' 2 _ rfl
    have r3 := ho5.at' 3 _ rfl
    refine bodyPost_ret (v := .agg #[.int .i64 ck, .int .i64 ce, .int .u64 0, .int .i64 x]) (by simp [results, Try.results16, go_sem, r0, r1, r2, r3]) rfl ⟨ck, ce, 0, x, rfl, HK4.out.then' hk5 (fun i hi => .inr (by have := HLT3.out; omega)), ?_⟩
    have rd : ∀ {a3 s3}, RdIn w4 rb A l cap a3 s3 → RdIn w5 rb A l cap a3 s3 := fun {a3 s3} hr => hr.keep hk5 (fun hh => by have := HLT.out; have := HLT3.out; omega) (fun b off hA hp hh => by have := HOLD.out b off hA hp; have := HLT3.out; omega)
    have h2 : ¬ how % 2 = 0 := by have := HCK.out; have := C0.out; omega
    rcases HW.out with ⟨hs, hh, hlen⟩ | ⟨hs, hl, ha⟩
    · subst hs
      have hnone : rdCall (l.drop at') = none := by rw [List.drop_of_length_le (by omega)]; rfl
      rcases HN4.out with ⟨n1, n2, n3⟩ | ⟨n1, n2, n3⟩
      · exact ⟨_, _, rd n3, .inl ⟨rfl, .inr hnone⟩⟩
      · exact ⟨_, _, rd n3, .inl ⟨rfl, .inr hnone⟩⟩
    · subst hs ha
      have hx := (List.getElem?_eq_some_iff.1 hl).1
      have hd : l.drop at' = how :: l.drop (at' + 1) := by
        rw [List.drop_eq_getElem_cons hx]
        rw [List.getElem?_eq_getElem hx, Option.some.injEq] at hl
        rw [hl]
      rcases HN4.out with ⟨n1, n2, n3⟩ | ⟨n1, n2, n3⟩
      · refine ⟨_, _, rd n3, .inl ⟨rfl, .inr ?_⟩⟩
        rw [hd, List.drop_of_length_le (by omega)]
        unfold rdCall
        dsimp only
        rw [if_neg h2]
      · refine ⟨_, _, rd n3, .inr ⟨rfl, 2, ?_, rfl⟩⟩
        have hy : at' + 1 < l.length := by omega
        rw [hd, HCK.out, HCE.out, n2, List.drop_eq_getElem_cons hy]
        unfold rdCall
        dsimp only
        rw [if_neg h2]
        show some (how % 2, how / 2, (0 : Int), l[at' + 1], 2) = some (how % 2, how / 2, (0 : Int), l[at' + 1] + 256 * un8 [], 2)
        rw [show un8 [] = 0 from rfl, Int.mul_zero, Int.add_zero]
end Go.Proofs.Ytebgjfhaolgcjaa
