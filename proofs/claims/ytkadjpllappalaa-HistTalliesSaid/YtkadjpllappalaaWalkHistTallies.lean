/-
  HistTallies answers true for all lists of deeds, and leaves all memory that was there as it was. No condition.
-/
import Derived.Test.YtkadjpllappalaaHistHead
import Derived.Test.YtkadjpllappalaaTallyCalls
namespace Go.Proofs.Ytkadjpllappalaa
open Go.RowKit Go.Maps
set_option linter.unusedVariables false

/-- The keys of a map of ints: as many as it tells, each once. -/
theorem IMap.keys {P : Program} {t kt et : TypeId} {kq : IntKind} (ty : MapTy P t kt et kq) {w : World} {b n : Nat} {F : Int → Int} {M : Int → Bool} {D : DataW Unit} (h : w.ownsMap P kt (plainElem P et) b n D)
    (hD : ∀ k, (Lit.int kq k).wf = true → D.atKey (.int kq k) (.lit (.int .i64 0)) = .lit (.int .i64 (F k)) ∧ Maps.has D (.int kq k) = M k) : ∃ ks : List Int, ks.Nodup ∧ ks.length = Maps.size D ∧ ∀ x, x ∈ ks ↔ ((Lit.int kq x).wf = true ∧ M x = true) := by
  obtain ⟨es, hE, hpw, _⟩ := h.entries (int_keyed ty.hk)
  obtain ⟨es', hE', hko⟩ := h.keysOf
  obtain rfl : es = es' := by rw [hE] at hE'; simpa using hE'
  subst hE
  have hki : ∀ p ∈ es, ∃ x, p.1 = .int kq x ∧ (Lit.int kq x).wf = true := fun p hp => by
    obtain ⟨v, hv⟩ := hko p hp
    obtain ⟨x, _, hx, hw⟩ := Maps.keyOf_int_inv ty.hk hv
    exact ⟨x, hx, hw⟩
  refine ⟨es.map (fun p => Go.intOf p.1), ?_, by simp [Maps.size], fun x => ?_⟩
  · refine List.pairwise_map.2 (hpw.imp_of_mem fun {p q} hp' hq' hne e => hne ?_)
    obtain ⟨a, ha, _⟩ := hki p hp'
    obtain ⟨c, hc, _⟩ := hki q hq'
    rw [ha, hc] at e ⊢
    exact congrArg _ e
  · rw [List.mem_map]
    constructor
    · rintro ⟨p, hp', rfl⟩
      obtain ⟨a, ha, hw⟩ := hki p hp'
      rw [ha]
      refine ⟨hw, ?_⟩
      show M a = true
      rw [← (hD a hw).2, has_eq, List.any_eq_true]
      exact ⟨p, hp', by rw [ha]; simp [Lit.sameKey]⟩
    · rintro ⟨hw, hM⟩
      rw [← (hD x hw).2, has_eq, List.any_eq_true] at hM
      obtain ⟨p, hp', hs⟩ := hM
      obtain ⟨a, ha, _⟩ := hki p hp'
      rw [ha] at hs
      exact ⟨p, hp', by rw [ha]; simpa [Lit.sameKey, Go.intOf] using hs⟩
/-- len(m) -/
theorem list_im_len {P : Program} {t' kt et : TypeId} {kq : IntKind} {w : World} {b n : Nat} {F : Int → Int} {M : Int → Bool} {ops : Array Oper} {rest : List Oper} {o : Oper} {a : Act} {Q : Exit → Act → World → Prop} (hg : o.guard = none) (m : Operand) (t : TypeId)
    (hop : o.op = Op.call { callee := Callee.builtin Builtin.len, args := #[m], argTypes := #[t] }) (ty : MapTy P t kt et kq) (hm : a.eval m = .map (some b)) (h : IMap P kt et kq w b n F M)
    (hK : ∀ N : Nat, (∃ ks : List Int, ks.Nodup ∧ ks.length = N ∧ ∀ x, x ∈ ks ↔ ((Lit.int kq x).wf = true ∧ M x = true)) → wpList P ops Q rest (a.put o.dst (.int .i64 N)) w) : wpList P ops Q (o :: rest) a w := by
  obtain ⟨D, h, hD⟩ := h
  exact wpList_len_own w hg m t hop kt et ty.ht _ b n D hm h (hK _ (IMap.keys ty h hD))
theorem IMap.ne_row {P : Program} {kt et e : TypeId} {kq : IntKind} {w : World} {b n g k base : Nat} {F : Int → Int} {M : Int → Bool} {v : Value} {xs : List Value} (h : IMap P kt et kq w b n F M) (hr : w.ownsRow base e 1 v k xs) : some b ≠ v.ownBlock := fun he => by
  obtain ⟨D, ⟨es, clock, h1, _⟩, _⟩ := h
  rcases hr.2 with ⟨rfl, _⟩ | ⟨g, cap, cur, rfl, _, h2, _⟩
  · cases he
  · cases he
    rw [h1] at h2
    cases h2

theorem elem_u64t : ElemAt Try.prog 41 24 (.int .u64 0) 1 8 := ElemAt.mk' Try.underlying41 (by kernel_rfl) rfl (by decide)
theorem src_u64 (w : World) (x : Int) : Src (w.alloc (.cells #[.int .u64 x] 24)) 1 (some ⟨w.heap.size, 0, none⟩) 1 [.int .u64 x] := by
  refine ⟨(fun h => by cases h), rfl, fun ad had j u hj => ?_, fun u hu => by simp only [List.mem_singleton] at hu; rw [hu]; rfl⟩
  cases had
  rw [addr_add, Nat.zero_add]
  match j, hj with
  | 0, hj => cases hj; simp
  | n + 1, hj => simp at hj

/-- The values that were met among the first i. -/
structure Seen (l : List Dd) (i : Nat) (S : List Int) : Prop where
  nodup : S.Nodup
  len : S.length ≤ i
  mem : ∀ v, v ∈ S ↔ ∃ j d, j < i ∧ l[j]? = some d ∧ tKey d = v
def kindsOf (l : List Dd) (S : List Int) : Nat := (S.filter (fun v => decide (tally l v ≠ 0))).length
theorem kindsOf_le (l : List Dd) (S : List Int) : kindsOf l S ≤ S.length := List.length_filter_le _ _
theorem kindsOf_snoc (l : List Dd) (S : List Int) (v : Int) : kindsOf l (S ++ [v]) = kindsOf l S + if tally l v ≠ 0 then 1 else 0 := by
  unfold kindsOf
  rw [List.filter_append, List.length_append]
  by_cases h : tally l v = 0
  · simp [h]
  · simp [h]
theorem Seen.zero (l : List Dd) : Seen l 0 [] := ⟨List.nodup_nil, Nat.le_refl _, fun v => ⟨fun h => (List.not_mem_nil h).elim, fun ⟨j, d, h, _⟩ => absurd h (Nat.not_lt_zero _)⟩⟩
theorem Seen.old {l : List Dd} {i : Nat} {S : List Int} {d : Dd} (h : Seen l i S) (hd : l[i]? = some d) (hm : tKey d ∈ S) : Seen l (i + 1) S := by
  refine ⟨h.nodup, Nat.le_succ_of_le h.len, fun v => ⟨fun hv => ?_, ?_⟩⟩
  · obtain ⟨j, o, hj, ho, hk⟩ := (h.mem v).1 hv
    exact ⟨j, o, by omega, ho, hk⟩
  · rintro ⟨j, o, hj, ho, hk⟩
    by_cases e : j = i
    · subst e
      rw [hd] at ho
      cases ho
      rw [← hk]
      exact hm
    · exact (h.mem v).2 ⟨j, o, by omega, ho, hk⟩
theorem Seen.new {l : List Dd} {i : Nat} {S : List Int} {d : Dd} (h : Seen l i S) (hd : l[i]? = some d) (hm : ¬ tKey d ∈ S) : Seen l (i + 1) (S ++ [tKey d]) := by
  refine ⟨List.nodup_append.2 ⟨h.nodup, by simp, fun a ha b hb => by simp at hb; subst hb; exact fun e => hm (e ▸ ha)⟩, by rw [List.length_append, List.length_singleton]; have := h.len; omega, fun v => ?_⟩
  rw [List.mem_append, List.mem_singleton]
  constructor
  · rintro (hv | rfl)
    · obtain ⟨j, o, hj, ho, hk⟩ := (h.mem v).1 hv
      exact ⟨j, o, by omega, ho, hk⟩
    · exact ⟨i, d, by omega, hd, rfl⟩
  · rintro ⟨j, o, hj, ho, hk⟩
    by_cases e : j = i
    · subst e
      rw [hd] at ho
      cases ho
      exact .inr hk.symm
    · exact .inl ((h.mem v).2 ⟨j, o, by omega, ho, hk⟩)
/-- As many values are told as were counted. -/
theorem Seen.count {l : List Dd} {S ks : List Int} {n : Nat} (h : Seen l n S) (hl : l.length = n) (hf : ∀ d ∈ l, (Lit.int .u64 (tKey d)).wf = true) (hn : ks.Nodup) (hk : ∀ x, x ∈ ks ↔ ((Lit.int .u64 x).wf = true ∧ decide (tally l x ≠ 0) = true)) : ks.length = kindsOf l S := by
  refine List.Perm.length_eq ((List.perm_ext_iff_of_nodup hn (h.nodup.filter _)).2 fun x => ?_)
  rw [hk, List.mem_filter, h.mem]
  constructor
  · rintro ⟨_, ht⟩
    obtain ⟨d, hd, he⟩ := tally_known (of_decide_eq_true ht)
    obtain ⟨j, hj⟩ := List.mem_iff_getElem?.1 hd
    exact ⟨⟨j, d, by rw [← hl]; exact (List.getElem?_eq_some_iff.1 hj).1, hj, he⟩, ht⟩
  · rintro ⟨⟨j, d, _, hj, he⟩, ht⟩
    exact ⟨by rw [← he]; exact hf d (List.mem_of_getElem? hj), ht⟩
/-- Was it met among the first k? -/
def Fresh (S : List Int) (z : Int) (k : Nat) (y : Bool) : Prop := y = true ↔ ∀ j x, j < k → S[j]? = some x → x ≠ z
theorem Fresh.next {S : List Int} {z x : Int} {k : Nat} {y y' : Bool} (h : Fresh S z k y) (hx : S[k]? = some x) (hy : y' = true ↔ (y = true ∧ x ≠ z)) : Fresh S z (k + 1) y' := by
  refine hy.trans ⟨fun ⟨h1, h2⟩ j x' hj hx' => ?_, fun hh => ⟨h.2 (fun j x' hj hx' => hh j x' (by omega) hx'), hh k x (by omega) hx⟩⟩
  by_cases e : j = k
  · subst e
    rw [hx] at hx'
    cases hx'
    exact h2
  · exact h.1 h1 j x' (by omega) hx'
theorem Fresh.mem {S : List Int} {z : Int} {y : Bool} (h : Fresh S z S.length y) : y = true ↔ ¬ z ∈ S := by
  refine h.trans ⟨fun hh hm => ?_, fun hh j x _ hx e => hh (e ▸ List.mem_of_getElem? hx)⟩
  obtain ⟨j, hj⟩ := List.mem_iff_getElem?.1 hm
  exact hh j z (List.getElem?_eq_some_iff.1 hj).1 hj rfl
theorem tally_next {l : List Dd} {k : Nat} {o : Dd} (ho : l[k]? = some o) (z : Int) {c : Int} (hc : tAdd o z = c) : tally (l.take (k + 1)) z = tally (l.take k) z + c := by
  rw [tally_snoc ho, hc]

set_option maxRecDepth 100000 in
set_option maxHeartbeats 8000000 in
theorem walk_HistTallies (a0 : Option Addr) (len0 cap0 : Nat) (w : World) (w0 : IsRows w [.inl .i64, .inl .i64, .inl .i64, .inl .u64, .inl .i64, .inl .i64, .inl .i64, .inr true, .inl .u64, .inl .i64, .inl .i64] a0 len0 cap0) :
    Calls Try.prog 6 #[.slice a0 len0 cap0] w fun e w' => e = .returned (.bool true) ∧ Below w.heap.size w w' := by
  rcases Nat.lt_or_ge 60 len0 with hbig | hs
  · have hbig' : (60 : Int) < (len0 : Int) := by omega
    clear w0
    go_enter Try.func6, Try.ntmps6
    go_wp2_with fail
    refine (head14_any _).mono ?_
    rintro e w1 ⟨rfl, hb1⟩
    go_wp2_with fail
    go_ret
    exact ⟨rfl, hb1⟩
  have p0 : decide ((60 : Int) < (len0 : Int)) = false := decide_eq_false (by omega)
  obtain ⟨tb, off, l, hL⟩ := rows_dds w0
  have HL := Lib.hid hL
  clear w0 hL
  go_enter Try.func6, Try.ntmps6
  go_wp2_with fail
  refine (head14_any _).mono ?_
  rintro e w1 ⟨rfl, hb1⟩
  have HB1 := Lib.hid hb1
  have HL1 := Lib.hid (HL.out.later hb1 (fun h => (HL.out.2.2.1 h).2))
  clear hb1
  go_wp2_with fail
  refine (tally_any _ _ _ _ _ _ _ HL1.out (by omega)).mono ?_
  rintro e w2 ⟨b, n, rfl, hM, hb2⟩
  have HB2 := Lib.hid (below_step HB1.out hb2)
  have HM2 := Lib.hid hM
  clear hb2 hM
  go_wp2_with fail
  have HR0 : Hid ((w2.alloc (.cells #[] 24)).ownsRow w.heap.size 24 1 (.slice (some ⟨w2.heap.size, 0, none⟩) 0 0) ([] : List Int).length (([] : List Int).map (Value.int .u64))) := Lib.hid (row_base (World.ownsRow_made w2 #[] 0 (Nat.le_refl _) (by unfold maxLen; omega) rfl) HB2.out.size)
  have HB3 := Lib.hid (below_new HB2.out (.cells #[] 24))
  have HM3 := Lib.hid (HM2.out.later (below_new (Below.refl _ _) (.cells #[] 24)))
  clear HB2 HM2
  go_loopw [4, 5, 27] (fun kv sv iw wr => ∃ (i : Nat) (S : List Int), i ≤ len0 ∧ kv = .int .i64 (kindsOf l S) ∧ iw = .int .i64 i ∧ Hid (Seen l i S) ∧ Hid (Below w.heap.size w wr) ∧ Hid (wr.ownsRow w.heap.size 24 1 sv S.length (S.map (Value.int .u64))) ∧ Hid (IMap Try.prog 24 3 .u64 wr b n (tally l) (fun v => decide (tally l v ≠ 0)))) (fun _ _ iw _ => len0 - (RowKit.intOf iw).toNat)
  case atStart => exact ⟨0, [], Nat.zero_le _, rfl, rfl, Seen.zero l, HB3, HR0, HM3⟩
  case round =>
    clear HB3 HR0 HM3
    obtain ⟨i, S, hi, rfl, rfl, HS, HB, HR, HM⟩ := hrel
    rcases Nat.lt_or_ge i len0 with hil | hil
    · have hil' : (i : Int) < (len0 : Int) := by omega
      obtain ⟨d, hd⟩ : ∃ d, l[i]? = some d := ⟨_, List.getElem?_eq_getElem (by rw [HL.out.1]; exact hil)⟩
      obtain ⟨rfl, htb⟩ := HL.out.2.2.1 (by omega)
      obtain ⟨hA, hF⟩ := (HL.out.later HB.out (fun _ => htb)).2.2.2 i d hd
      have hcap := HL.out.2.1
      obtain ⟨c0, c1, c2, c3, c4, c5, c6, c7, c8, c9, c10⟩ := hA
      obtain ⟨A, cp, rfl⟩ := own_shape HR.out
      have hSl := HS.out.len
      have hkl := kindsOf_le l S
      have HD := Lib.hid hd
      have HK := Lib.hid hF.key
      have HBN := Lib.hid (below_new HB.out (d.obj 32))
      have HMN := Lib.hid (HM.out.later (below_new (Below.refl _ _) (d.obj 32)))
      have HRN := Lib.hid ((Keep.of_below (T := fun _ => False) (below_new (Below.refl wr.heap.size wr) (d.obj 32))).row HR.out (fun k _ h => h))
      obtain ⟨NK, hNK⟩ : ∃ NK, kindsOf l S = NK := ⟨_, rfl⟩
      have HNK := Lib.hid hNK
      rw [hNK] at hkl ⊢
      clear hd hF hNK
      by_cases hk : d.kd = 0
      case pos =>
        have q1 : (d.kd == 0) = true := beq_iff_eq.2 hk
        have e1 : tKey d = d.x := if_pos hk
        have HZ := Lib.hid e1
        rw [e1] at HK
        clear e1 hk
        go_wp2_with fail
        clear c0 c1 c2 c3 c4 c5 c6 c7 c8 c9 c10 q1 HB HM HR
        obtain ⟨W1, hW1⟩ : ∃ W1, wr.alloc (d.obj 32) = W1 := ⟨_, rfl⟩
        rw [hW1] at HBN HMN HRN ⊢
        clear hW1
        generalize d.x = z at HK HZ ⊢
        go_loopw [9, 43] (fun fv jv wq => ∃ (k : Nat) (y : Bool), k ≤ S.length ∧ fv = .bool y ∧ jv = .int .i64 k ∧ Hid (Fresh S z k y) ∧ wq = W1) (fun _ jv _ => S.length - (RowKit.intOf jv).toNat)
        case atStart => exact ⟨0, true, Nat.zero_le _, rfl, rfl, ⟨fun _ j x hj => absurd hj (Nat.not_lt_zero _), fun _ => rfl⟩, rfl⟩
        case round =>
          obtain ⟨k, y, hk, rfl, rfl, HF, rfl⟩ := hrel
          rcases Nat.lt_or_ge k S.length with hkl2 | hkl2
          · have hkl' : (k : Int) < (S.length : Int) := by omega
            obtain ⟨x, hx⟩ : ∃ x, S[k]? = some x := ⟨_, List.getElem?_eq_getElem hkl2⟩
            rcases HRN.out.2 with ⟨hv, h0⟩ | ⟨g, cp', cur, hv, _, _, hcp, _⟩
            · omega
            cases hv
            have hcell : wr.cell? ⟨g, k, none⟩ = some (.int .u64 x) := by
              rw [HRN.out.cellAt k (by omega), List.getElem?_map, hx]
              rfl
            have HX := Lib.hid hx
            clear hx
            cases y
            case false =>
              have HF2 : Hid (Fresh S z (k + 1) false) := Lib.hid (HF.out.next HX.out (by simp))
              go_wp2_with fail
              go_roundw
              case rel => exact ⟨k + 1, false, by omega, rfl, by go_num, HF2, trivial⟩
              case measure => first | omega | (simp [RowKit.intOf]; done) | (simp [RowKit.intOf]; omega)
            case true =>
              by_cases hxz : x = z
              case pos =>
                have q2 : (x != z) = false := by simp [hxz]
                have HF2 : Hid (Fresh S z (k + 1) false) := Lib.hid (HF.out.next HX.out (by simp [hxz]))
                clear hxz
                go_wp2_with fail
                go_roundw
                case rel => exact ⟨k + 1, false, by omega, rfl, by go_num, HF2, trivial⟩
                case measure => first | omega | (simp [RowKit.intOf]; done) | (simp [RowKit.intOf]; omega)
              case neg =>
                have q2 : (x != z) = true := by simp [hxz]
                have HF2 : Hid (Fresh S z (k + 1) true) := Lib.hid (HF.out.next HX.out (by simp [hxz]))
                clear hxz
                go_wp2_with fail
                go_roundw
                case rel => exact ⟨k + 1, true, by omega, rfl, by go_num, HF2, trivial⟩
                case measure => first | omega | (simp [RowKit.intOf]; done) | (simp [RowKit.intOf]; omega)
          · obtain rfl : k = S.length := by omega
            have hnl : ¬ (S.length : Int) < (S.length : Int) := by omega
            have HIN := Lib.hid HF.out.mem
            clear HF hkl2 hk
            cases y
            case false =>
              have HS2 := Lib.hid (HS.out.old HD.out (by
                have h := HIN.out
                rw [HZ.out]
                by_cases hm : z ∈ S
                · exact hm
                · exact absurd (h.2 hm) (by simp)))
              clear HIN
              go_wp2_with fail
              go_roundw
              case rel => exact ⟨i + 1, S, by omega, congrArg (Value.int .i64) (by rw [HNK.out]), by go_num, HS2, HBN, HRN, HMN⟩
              case measure => first | omega | (simp [RowKit.intOf]; done) | (simp [RowKit.intOf]; omega)
            case true =>
              have HS2 := Lib.hid (HS.out.new HD.out (by rw [HZ.out]; exact HIN.out.1 rfl))
              rw [HZ.out] at HS2
              clear HIN
              have HRA := Lib.hid ((Keep.of_below (T := fun _ => False) (below_new (Below.refl wr.heap.size wr) (.cells #[.int .u64 z] 24))).row HRN.out (fun k _ h => h))
              have HMA := Lib.hid (HMN.out.later (below_new (Below.refl _ _) (.cells #[.int .u64 z] 24)))
              have hsz : w.heap.size ≤ wr.heap.size := HBN.out.size
              go_wp2_with (first
                | (at_builtin; refine list_append_grew rfl _ _ 41 rfl w.heap.size 24 _ 1 8 elem_u64t (.slice A S.length cp) S.length (S.map (Value.int .u64)) rfl HRA.out (some ⟨_, 0, none⟩) 1 1 [.int .u64 z] rfl (src_u64 wr z) (by unfold maxLen; omega) (by omega) (by simp; omega) ?_; intro v' w4 hG)
                | fail)
              have HR4 : Hid (w4.ownsRow w.heap.size 24 1 v' (S ++ [z]).length ((S ++ [z]).map (Value.int .u64))) := Lib.hid (by
                rw [List.length_append, List.length_singleton, List.map_append]
                exact hG.own)
              have HB4 : Hid (Below w.heap.size w w4) := Lib.hid (below_keep (below_new HBN.out _) (Keep.of_grown (T := fun k => w.heap.size ≤ k) hG.grown (fun k hk => (HRA.out.lt k hk).1)) (by simp; omega) (fun i hi => hi))
              have HM4 := Lib.hid (HMA.out.kept hG.grown (IMap.ne_row (g := 0) HMA.out HRA.out))
              clear hG HRA HMA HRN HMN HBN
              go_wp2_with fail
              go_loopw [12, 62] (fun nv jv wq => ∃ k : Nat, k ≤ len0 ∧ nv = .int .i64 (tally (l.take k) z) ∧ jv = .int .i64 k ∧ Hid (Below w4.heap.size w4 wq)) (fun _ jv _ => len0 - (RowKit.intOf jv).toNat)
              case atStart => exact ⟨0, Nat.zero_le _, rfl, rfl, Below.refl _ _⟩
              case round =>
                obtain ⟨k, hk, rfl, rfl, HW⟩ := hrel
                rcases Nat.lt_or_ge k len0 with hkl2 | hkl2
                · have hkl' : (k : Int) < (len0 : Int) := by omega
                  obtain ⟨o, ho⟩ : ∃ o, l[k]? = some o := ⟨_, List.getElem?_eq_getElem (by rw [HL.out.1]; exact hkl2)⟩
                  obtain ⟨hA, _⟩ := (HL.out.later (below_step HB4.out HW.out) (fun _ => htb)).2.2.2 k o ho
                  obtain ⟨c0, c1, c2, c3, c4, c5, c6, c7, c8, c9, c10⟩ := hA
                  have HO := Lib.hid ho
                  have hbt := tally_bound z (l.take k)
                  rw [List.length_take] at hbt
                  obtain ⟨t, ht⟩ : ∃ t, tally (l.take k) z = t := ⟨_, rfl⟩
                  have HT := Lib.hid ht
                  rw [ht] at hbt ⊢
                  have hbt' : -60 ≤ t ∧ t ≤ 60 := by omega
                  clear ho ht hbt
                  cases hok : o.ok
                  case false =>
                    rw [hok] at c7
                    have HN : Hid (tally (l.take (k + 1)) z = t + (0)) := Lib.hid (by rw [tally_next HO.out z (c := 0) (by unfold tAdd; rw [if_neg (fun h => by rw [hok] at h; exact Bool.false_ne_true h.1)]), HT.out])
                    clear hok
                    go_wp2_with fail
                    go_roundw
                    case rel => exact ⟨k + 1, by omega, congrArg (Value.int .i64) (by have := HN.out; omega), by go_num, below_step HW.out (below_new (Below.refl _ _) _)⟩
                    case measure => first | omega | (simp [RowKit.intOf]; done) | (simp [RowKit.intOf]; omega)
                  case true =>
                    rw [hok] at c7
                    by_cases hkd : o.kd = 0
                    case pos =>
                      have q3 : (o.kd == 0) = true := beq_iff_eq.2 hkd
                      have q4 : (o.kd != 0) = false := by simp [hkd]
                      by_cases hx : o.x = z
                      case pos =>
                        have q5 : (o.x == z) = true := beq_iff_eq.2 hx
                        have HN : Hid (tally (l.take (k + 1)) z = t + (1)) := Lib.hid (by rw [tally_next HO.out z (c := 1) (by unfold tAdd tKey tSign; rw [if_pos hkd, if_pos hkd, if_pos ⟨hok, hx.symm⟩]), HT.out])
                        clear hok hkd hx
                        go_wp2_with fail
                        go_roundw
                        case rel => exact ⟨k + 1, by omega, congrArg (Value.int .i64) (by have := HN.out; omega), by go_num, below_step HW.out (below_new (Below.refl _ _) _)⟩
                        case measure => first | omega | (simp [RowKit.intOf]; done) | (simp [RowKit.intOf]; omega)
                      case neg =>
                        have q5 : (o.x == z) = false := beq_false_of_ne hx
                        have HN : Hid (tally (l.take (k + 1)) z = t + (0)) := Lib.hid (by rw [tally_next HO.out z (c := 0) (by unfold tAdd tKey tSign; rw [if_pos hkd, if_pos hkd, if_neg (fun h => hx h.2.symm)]), HT.out])
                        clear hok hkd hx
                        go_wp2_with fail
                        go_roundw
                        case rel => exact ⟨k + 1, by omega, congrArg (Value.int .i64) (by have := HN.out; omega), by go_num, below_step HW.out (below_new (Below.refl _ _) _)⟩
                        case measure => first | omega | (simp [RowKit.intOf]; done) | (simp [RowKit.intOf]; omega)
                    case neg =>
                      have q3 : (o.kd == 0) = false := beq_false_of_ne hkd
                      have q4 : (o.kd != 0) = true := by simp [hkd]
                      by_cases hx : o.v = z
                      case pos =>
                        have q5 : (o.v == z) = true := beq_iff_eq.2 hx
                        have HN : Hid (tally (l.take (k + 1)) z = t + (-1)) := Lib.hid (by rw [tally_next HO.out z (c := -1) (by unfold tAdd tKey tSign; rw [if_neg hkd, if_neg hkd, if_pos ⟨hok, hx.symm⟩]), HT.out])
                        clear hok hkd hx
                        go_wp2_with fail
                        go_roundw
                        case rel => exact ⟨k + 1, by omega, congrArg (Value.int .i64) (by have := HN.out; omega), by go_num, below_step HW.out (below_new (Below.refl _ _) _)⟩
                        case measure => first | omega | (simp [RowKit.intOf]; done) | (simp [RowKit.intOf]; omega)
                      case neg =>
                        have q5 : (o.v == z) = false := beq_false_of_ne hx
                        have HN : Hid (tally (l.take (k + 1)) z = t + (0)) := Lib.hid (by rw [tally_next HO.out z (c := 0) (by unfold tAdd tKey tSign; rw [if_neg hkd, if_neg hkd, if_neg (fun h => hx h.2.symm)]), HT.out])
                        clear hok hkd hx
                        go_wp2_with fail
                        go_roundw
                        case rel => exact ⟨k + 1, by omega, congrArg (Value.int .i64) (by have := HN.out; omega), by go_num, below_step HW.out (below_new (Below.refl _ _) _)⟩
                        case measure => first | omega | (simp [RowKit.intOf]; done) | (simp [RowKit.intOf]; omega)
                · obtain rfl : k = len0 := by omega
                  have hnl2 : ¬ (k : Int) < (k : Int) := by omega
                  have HBE := Lib.hid (below_step HB4.out HW.out)
                  have HME := Lib.hid (HM4.out.later HW.out)
                  have HRE := Lib.hid ((Keep.of_below (T := fun _ => False) HW.out).row HR4.out (fun k _ h => h))
                  have htl : tally (l.take k) z = tally l z := by rw [List.take_of_length_le (by rw [HL.out.1]; exact Nat.le_refl _)]
                  rw [htl]
                  have hks := kindsOf_snoc l S z
                  obtain ⟨t, ht⟩ : ∃ t, tally l z = t := ⟨_, rfl⟩
                  have HT := Lib.hid ht
                  rw [ht] at hks ⊢
                  rw [HNK.out] at hks
                  clear htl ht
                  by_cases hz : t = 0
                  case pos =>
                    subst hz
                    have HKS := Lib.hid hks
                    have HY : Hid (decide (tally l z ≠ 0) = false) := Lib.hid (by rw [HT.out]; rfl)
                    clear hks
                    go_wp2_with (first
                      | (at_lookup; refine list_im_look_ok rfl _ _ _ rfl mty_ui rfl HME.out _ 0 false rfl HK.out HT.out HY.out ?_)
                      | fail)
                    go_roundw
                    case rel => exact ⟨i + 1, S ++ [z], by omega, congrArg (Value.int .i64) (by have := HKS.out; simp only [ne_eq, not_true_eq_false, if_false] at this; omega), by go_num, HS2, HBE, HRE, HME⟩
                    case measure => first | omega | (simp [RowKit.intOf]; done) | (simp [RowKit.intOf]; omega)
                  case neg =>
                    have q2 : (t != 0) = true := by simp [hz]
                    have HKS : Hid (kindsOf l (S ++ [z]) = NK + 1) := Lib.hid (by rw [hks, if_pos hz])
                    have HY : Hid (decide (tally l z ≠ 0) = true) := Lib.hid (by rw [HT.out]; exact decide_eq_true hz)
                    clear hks hz
                    go_wp2_with (first
                      | (at_lookup; refine list_im_look_ok rfl _ _ _ rfl mty_ui rfl HME.out _ t true rfl HK.out HT.out HY.out ?_)
                      | fail)
                    go_roundw
                    case rel => exact ⟨i + 1, S ++ [z], by omega, congrArg (Value.int .i64) (by rw [HKS.out]; try omega), by go_num, HS2, HBE, HRE, HME⟩
                    case measure => first | omega | (simp [RowKit.intOf]; done) | (simp [RowKit.intOf]; omega)
      case neg =>
        have q1 : (d.kd == 0) = false := beq_false_of_ne hk
        have e1 : tKey d = d.v := if_neg hk
        have HZ := Lib.hid e1
        rw [e1] at HK
        clear e1 hk
        go_wp2_with fail
        clear c0 c1 c2 c3 c4 c5 c6 c7 c8 c9 c10 q1 HB HM HR
        obtain ⟨W1, hW1⟩ : ∃ W1, wr.alloc (d.obj 32) = W1 := ⟨_, rfl⟩
        rw [hW1] at HBN HMN HRN ⊢
        clear hW1
        generalize d.v = z at HK HZ ⊢
        go_loopw [9, 43] (fun fv jv wq => ∃ (k : Nat) (y : Bool), k ≤ S.length ∧ fv = .bool y ∧ jv = .int .i64 k ∧ Hid (Fresh S z k y) ∧ wq = W1) (fun _ jv _ => S.length - (RowKit.intOf jv).toNat)
        case atStart => exact ⟨0, true, Nat.zero_le _, rfl, rfl, ⟨fun _ j x hj => absurd hj (Nat.not_lt_zero _), fun _ => rfl⟩, rfl⟩
        case round =>
          obtain ⟨k, y, hk, rfl, rfl, HF, rfl⟩ := hrel
          rcases Nat.lt_or_ge k S.length with hkl2 | hkl2
          · have hkl' : (k : Int) < (S.length : Int) := by omega
            obtain ⟨x, hx⟩ : ∃ x, S[k]? = some x := ⟨_, List.getElem?_eq_getElem hkl2⟩
            rcases HRN.out.2 with ⟨hv, h0⟩ | ⟨g, cp', cur, hv, _, _, hcp, _⟩
            · omega
            cases hv
            have hcell : wr.cell? ⟨g, k, none⟩ = some (.int .u64 x) := by
              rw [HRN.out.cellAt k (by omega), List.getElem?_map, hx]
              rfl
            have HX := Lib.hid hx
            clear hx
            cases y
            case false =>
              have HF2 : Hid (Fresh S z (k + 1) false) := Lib.hid (HF.out.next HX.out (by simp))
              go_wp2_with fail
              go_roundw
              case rel => exact ⟨k + 1, false, by omega, rfl, by go_num, HF2, trivial⟩
              case measure => first | omega | (simp [RowKit.intOf]; done) | (simp [RowKit.intOf]; omega)
            case true =>
              by_cases hxz : x = z
              case pos =>
                have q2 : (x != z) = false := by simp [hxz]
                have HF2 : Hid (Fresh S z (k + 1) false) := Lib.hid (HF.out.next HX.out (by simp [hxz]))
                clear hxz
                go_wp2_with fail
                go_roundw
                case rel => exact ⟨k + 1, false, by omega, rfl, by go_num, HF2, trivial⟩
                case measure => first | omega | (simp [RowKit.intOf]; done) | (simp [RowKit.intOf]; omega)
              case neg =>
                have q2 : (x != z) = true := by simp [hxz]
                have HF2 : Hid (Fresh S z (k + 1) true) := Lib.hid (HF.out.next HX.out (by simp [hxz]))
                clear hxz
                go_wp2_with fail
                go_roundw
                case rel => exact ⟨k + 1, true, by omega, rfl, by go_num, HF2, trivial⟩
                case measure => first | omega | (simp [RowKit.intOf]; done) | (simp [RowKit.intOf]; omega)
          · obtain rfl : k = S.length := by omega
            have hnl : ¬ (S.length : Int) < (S.length : Int) := by omega
            have HIN := Lib.hid HF.out.mem
            clear HF hkl2 hk
            cases y
            case false =>
              have HS2 := Lib.hid (HS.out.old HD.out (by
                have h := HIN.out
                rw [HZ.out]
                by_cases hm : z ∈ S
                · exact hm
                · exact absurd (h.2 hm) (by simp)))
              clear HIN
              go_wp2_with fail
              go_roundw
              case rel => exact ⟨i + 1, S, by omega, congrArg (Value.int .i64) (by rw [HNK.out]), by go_num, HS2, HBN, HRN, HMN⟩
              case measure => first | omega | (simp [RowKit.intOf]; done) | (simp [RowKit.intOf]; omega)
            case true =>
              have HS2 := Lib.hid (HS.out.new HD.out (by rw [HZ.out]; exact HIN.out.1 rfl))
              rw [HZ.out] at HS2
              clear HIN
              have HRA := Lib.hid ((Keep.of_below (T := fun _ => False) (below_new (Below.refl wr.heap.size wr) (.cells #[.int .u64 z] 24))).row HRN.out (fun k _ h => h))
              have HMA := Lib.hid (HMN.out.later (below_new (Below.refl _ _) (.cells #[.int .u64 z] 24)))
              have hsz : w.heap.size ≤ wr.heap.size := HBN.out.size
              go_wp2_with (first
                | (at_builtin; refine list_append_grew rfl _ _ 41 rfl w.heap.size 24 _ 1 8 elem_u64t (.slice A S.length cp) S.length (S.map (Value.int .u64)) rfl HRA.out (some ⟨_, 0, none⟩) 1 1 [.int .u64 z] rfl (src_u64 wr z) (by unfold maxLen; omega) (by omega) (by simp; omega) ?_; intro v' w4 hG)
                | fail)
              have HR4 : Hid (w4.ownsRow w.heap.size 24 1 v' (S ++ [z]).length ((S ++ [z]).map (Value.int .u64))) := Lib.hid (by
                rw [List.length_append, List.length_singleton, List.map_append]
                exact hG.own)
              have HB4 : Hid (Below w.heap.size w w4) := Lib.hid (below_keep (below_new HBN.out _) (Keep.of_grown (T := fun k => w.heap.size ≤ k) hG.grown (fun k hk => (HRA.out.lt k hk).1)) (by simp; omega) (fun i hi => hi))
              have HM4 := Lib.hid (HMA.out.kept hG.grown (IMap.ne_row (g := 0) HMA.out HRA.out))
              clear hG HRA HMA HRN HMN HBN
              go_wp2_with fail
              go_loopw [12, 62] (fun nv jv wq => ∃ k : Nat, k ≤ len0 ∧ nv = .int .i64 (tally (l.take k) z) ∧ jv = .int .i64 k ∧ Hid (Below w4.heap.size w4 wq)) (fun _ jv _ => len0 - (RowKit.intOf jv).toNat)
              case atStart => exact ⟨0, Nat.zero_le _, rfl, rfl, Below.refl _ _⟩
              case round =>
                obtain ⟨k, hk, rfl, rfl, HW⟩ := hrel
                rcases Nat.lt_or_ge k len0 with hkl2 | hkl2
                · have hkl' : (k : Int) < (len0 : Int) := by omega
                  obtain ⟨o, ho⟩ : ∃ o, l[k]? = some o := ⟨_, List.getElem?_eq_getElem (by rw [HL.out.1]; exact hkl2)⟩
                  obtain ⟨hA, _⟩ := (HL.out.later (below_step HB4.out HW.out) (fun _ => htb)).2.2.2 k o ho
                  obtain ⟨c0, c1, c2, c3, c4, c5, c6, c7, c8, c9, c10⟩ := hA
                  have HO := Lib.hid ho
                  have hbt := tally_bound z (l.take k)
                  rw [List.length_take] at hbt
                  obtain ⟨t, ht⟩ : ∃ t, tally (l.take k) z = t := ⟨_, rfl⟩
                  have HT := Lib.hid ht
                  rw [ht] at hbt ⊢
                  have hbt' : -60 ≤ t ∧ t ≤ 60 := by omega
                  clear ho ht hbt
                  cases hok : o.ok
                  case false =>
                    rw [hok] at c7
                    have HN : Hid (tally (l.take (k + 1)) z = t + (0)) := Lib.hid (by rw [tally_next HO.out z (c := 0) (by unfold tAdd; rw [if_neg (fun h => by rw [hok] at h; exact Bool.false_ne_true h.1)]), HT.out])
                    clear hok
                    go_wp2_with fail
                    go_roundw
                    case rel => exact ⟨k + 1, by omega, congrArg (Value.int .i64) (by have := HN.out; omega), by go_num, below_step HW.out (below_new (Below.refl _ _) _)⟩
                    case measure => first | omega | (simp [RowKit.intOf]; done) | (simp [RowKit.intOf]; omega)
                  case true =>
                    rw [hok] at c7
                    by_cases hkd : o.kd = 0
                    case pos =>
                      have q3 : (o.kd == 0) = true := beq_iff_eq.2 hkd
                      have q4 : (o.kd != 0) = false := by simp [hkd]
                      by_cases hx : o.x = z
                      case pos =>
                        have q5 : (o.x == z) = true := beq_iff_eq.2 hx
                        have HN : Hid (tally (l.take (k + 1)) z = t + (1)) := Lib.hid (by rw [tally_next HO.out z (c := 1) (by unfold tAdd tKey tSign; rw [if_pos hkd, if_pos hkd, if_pos ⟨hok, hx.symm⟩]), HT.out])
                        clear hok hkd hx
                        go_wp2_with fail
                        go_roundw
                        case rel => exact ⟨k + 1, by omega, congrArg (Value.int .i64) (by have := HN.out; omega), by go_num, below_step HW.out (below_new (Below.refl _ _) _)⟩
                        case measure => first | omega | (simp [RowKit.intOf]; done) | (simp [RowKit.intOf]; omega)
                      case neg =>
                        have q5 : (o.x == z) = false := beq_false_of_ne hx
                        have HN : Hid (tally (l.take (k + 1)) z = t + (0)) := Lib.hid (by rw [tally_next HO.out z (c := 0) (by unfold tAdd tKey tSign; rw [if_pos hkd, if_pos hkd, if_neg (fun h => hx h.2.symm)]), HT.out])
                        clear hok hkd hx
                        go_wp2_with fail
                        go_roundw
                        case rel => exact ⟨k + 1, by omega, congrArg (Value.int .i64) (by have := HN.out; omega), by go_num, below_step HW.out (below_new (Below.refl _ _) _)⟩
                        case measure => first | omega | (simp [RowKit.intOf]; done) | (simp [RowKit.intOf]; omega)
                    case neg =>
                      have q3 : (o.kd == 0) = false := beq_false_of_ne hkd
                      have q4 : (o.kd != 0) = true := by simp [hkd]
                      by_cases hx : o.v = z
                      case pos =>
                        have q5 : (o.v == z) = true := beq_iff_eq.2 hx
                        have HN : Hid (tally (l.take (k + 1)) z = t + (-1)) := Lib.hid (by rw [tally_next HO.out z (c := -1) (by unfold tAdd tKey tSign; rw [if_neg hkd, if_neg hkd, if_pos ⟨hok, hx.symm⟩]), HT.out])
                        clear hok hkd hx
                        go_wp2_with fail
                        go_roundw
                        case rel => exact ⟨k + 1, by omega, congrArg (Value.int .i64) (by have := HN.out; omega), by go_num, below_step HW.out (below_new (Below.refl _ _) _)⟩
                        case measure => first | omega | (simp [RowKit.intOf]; done) | (simp [RowKit.intOf]; omega)
                      case neg =>
                        have q5 : (o.v == z) = false := beq_false_of_ne hx
                        have HN : Hid (tally (l.take (k + 1)) z = t + (0)) := Lib.hid (by rw [tally_next HO.out z (c := 0) (by unfold tAdd tKey tSign; rw [if_neg hkd, if_neg hkd, if_neg (fun h => hx h.2.symm)]), HT.out])
                        clear hok hkd hx
                        go_wp2_with fail
                        go_roundw
                        case rel => exact ⟨k + 1, by omega, congrArg (Value.int .i64) (by have := HN.out; omega), by go_num, below_step HW.out (below_new (Below.refl _ _) _)⟩
                        case measure => first | omega | (simp [RowKit.intOf]; done) | (simp [RowKit.intOf]; omega)
                · obtain rfl : k = len0 := by omega
                  have hnl2 : ¬ (k : Int) < (k : Int) := by omega
                  have HBE := Lib.hid (below_step HB4.out HW.out)
                  have HME := Lib.hid (HM4.out.later HW.out)
                  have HRE := Lib.hid ((Keep.of_below (T := fun _ => False) HW.out).row HR4.out (fun k _ h => h))
                  have htl : tally (l.take k) z = tally l z := by rw [List.take_of_length_le (by rw [HL.out.1]; exact Nat.le_refl _)]
                  rw [htl]
                  have hks := kindsOf_snoc l S z
                  obtain ⟨t, ht⟩ : ∃ t, tally l z = t := ⟨_, rfl⟩
                  have HT := Lib.hid ht
                  rw [ht] at hks ⊢
                  rw [HNK.out] at hks
                  clear htl ht
                  by_cases hz : t = 0
                  case pos =>
                    subst hz
                    have HKS := Lib.hid hks
                    have HY : Hid (decide (tally l z ≠ 0) = false) := Lib.hid (by rw [HT.out]; rfl)
                    clear hks
                    go_wp2_with (first
                      | (at_lookup; refine list_im_look_ok rfl _ _ _ rfl mty_ui rfl HME.out _ 0 false rfl HK.out HT.out HY.out ?_)
                      | fail)
                    go_roundw
                    case rel => exact ⟨i + 1, S ++ [z], by omega, congrArg (Value.int .i64) (by have := HKS.out; simp only [ne_eq, not_true_eq_false, if_false] at this; omega), by go_num, HS2, HBE, HRE, HME⟩
                    case measure => first | omega | (simp [RowKit.intOf]; done) | (simp [RowKit.intOf]; omega)
                  case neg =>
                    have q2 : (t != 0) = true := by simp [hz]
                    have HKS : Hid (kindsOf l (S ++ [z]) = NK + 1) := Lib.hid (by rw [hks, if_pos hz])
                    have HY : Hid (decide (tally l z ≠ 0) = true) := Lib.hid (by rw [HT.out]; exact decide_eq_true hz)
                    clear hks hz
                    go_wp2_with (first
                      | (at_lookup; refine list_im_look_ok rfl _ _ _ rfl mty_ui rfl HME.out _ t true rfl HK.out HT.out HY.out ?_)
                      | fail)
                    go_roundw
                    case rel => exact ⟨i + 1, S ++ [z], by omega, congrArg (Value.int .i64) (by rw [HKS.out]; try omega), by go_num, HS2, HBE, HRE, HME⟩
                    case measure => first | omega | (simp [RowKit.intOf]; done) | (simp [RowKit.intOf]; omega)
    · obtain rfl : i = len0 := by omega
      have hnl : ¬ (i : Int) < (i : Int) := by omega
      have hf : ∀ d ∈ l, (Lit.int .u64 (tKey d)).wf = true := fun d hd => by
        obtain ⟨j, hj⟩ := List.mem_iff_getElem?.1 hd
        exact (HL.out.2.2.2 j d hj).2.key
      have HF := Lib.hid hf
      clear hf
      go_wp2_with (first
        | (at_len; refine list_im_len (t' := 0) rfl _ _ rfl mty_ui rfl HM.out ?_; intro N hN; obtain ⟨ks, h1, h2, h3⟩ := hN; have hE := HS.out.count HL.out.1 HF.out h1 h3; rw [h2] at hE; clear h1 h2 h3; subst hE)
        | fail)
      go_ret
      exact ⟨rfl, HB.out⟩
end Go.Proofs.Ytkadjpllappalaa
