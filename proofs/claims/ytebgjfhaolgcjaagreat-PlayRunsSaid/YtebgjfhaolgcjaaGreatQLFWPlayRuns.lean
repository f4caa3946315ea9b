/-
  PlayRuns answers true for all layouts and lists of moves, and leaves all memory that was there as it was. No condition.
-/
import Derived.Test.YtebgjfhaolgcjaaGreatQLF10
namespace Go.Proofs.YtebgjfhaolgcjaaGreat
open Go.RowKit
set_option linter.unusedVariables false

theorem vcells {w : World} {b : Nat} {v : LM} (h : IsObj w b v.list) : w.cell? ⟨b,0,none⟩ = some (i64 v.kind) ∧ w.cell? ⟨b,1,none⟩ = some (i64 v.who) ∧ w.cell? ⟨b,2,none⟩ = some (i64 v.n) ∧ w.cell? ⟨b,3,none⟩ = some (i64 v.start) ∧ w.cell? ⟨b,4,none⟩ = some (.bool v.take) ∧ w.cell? ⟨b,5,none⟩ = some (.bool v.right) ∧ w.cell? ⟨b,6,none⟩ = some (u64 v.value) ∧ w.cell? ⟨b,7,none⟩ = some (i64 v.odd) :=
  ⟨h.at' 0 _ rfl,h.at' 1 _ rfl,h.at' 2 _ rfl,h.at' 3 _ rfl,h.at' 4 _ rfl,h.at' 5 _ rfl,h.at' 6 _ rfl,h.at' 7 _ rfl⟩
theorem EncIs.no {w' : World} {base : Nat} {t s so d : Int} {ms : List CM} {v : Value} {e : Int} (h : EncIs w' base t s so d ms v e) (hr : rightC t s so d = true) (hn : ms.length ≤ 65536) (hm : ¬ ∀ m ∈ ms,m.Right) : e = 1 ∧ v = .slice none 0 0:=by
  cases h with
  | conf h=>rw [hr] at h; cases h
  | many _ h=>omega
  | arg _ _ h=>exact ⟨rfl,rfl⟩
  | ok _ _ h _ _=>exact absurd h hm
theorem isAt_none (w : World) : IsAt w none (([] : List Int).map u8):=fun h=>absurd h (by simp)
theorem DecPost.none {w' : World} {base : Nat} {v : Value} {n e : Int} (h : DecPost w' base [] v n e) : e = 3:=by
  cases h with
  | short _=>rfl
  | conf _ _ _ _ _ h=>cases h
  | bad _ _ _ _ _ _ _ h=>cases h
  | ok _ _ _ _ _ _ _ _ h=>cases h
set_option maxRecDepth 100000 in
set_option maxHeartbeats 8000000 in
theorem walk_PlayRuns (a0_0 : Int) (a0_1 : Int) (a0_2 : Int) (a0_3 : Int) (a1 : Option Addr) (len1 cap1 : Nat) (w : World) (w0_0 : (Lit.int .i64 a0_0).wf = true) (w0_1 : (Lit.int .i64 a0_1).wf = true) (w0_2 : (Lit.int .i64 a0_2).wf = true) (w0_3 : (Lit.int .i64 a0_3).wf = true) (w1 : IsRows w [.inl .i64,.inl .i64,.inl .i64,.inl .i64,.inr true,.inr true,.inl .u64,.inl .i64] a1 len1 cap1) :
    Calls Tryz.prog 3 #[.agg #[.int .i64 a0_0,.int .i64 a0_1,.int .i64 a0_2,.int .i64 a0_3],.slice a1 len1 cap1] w fun e w'=>e = .returned (.bool true) ∧ Below w.heap.size w w':=by
  clear w0_0 w0_1 w0_2 w0_3
  obtain ⟨V,rfl,hV⟩:=zEJ w1
  have HV:=zHe hV
  clear w1 hV
  rcases (by omega : 300 < V.length ∨ (V.length ≤ 300 ∧ 16 < a0_0) ∨ (V.length ≤ 300 ∧ a0_0 ≤ 16 ∧ 16 < a0_1) ∨ (V.length ≤ 300 ∧ a0_0 ≤ 16 ∧ a0_1 ≤ 16)) with hbig | ⟨hl,hx⟩ | ⟨hl,hy,hx⟩ | ⟨hl,hx,hy⟩
  · have p1 : decide ((300 : Int) < (V.length : Int)) = true:=decide_eq_true (by omega)
    go_enter Tryz.func3,Tryz.ntmps3
    go_wp2_with fail
    refine (zAf _).mono ?_
    rintro e w1 ⟨rfl,hb1⟩
    have hco:=(IsObj.made w [i64 a0_0,i64 a0_1,i64 a0_2,i64 a0_3] 24).later hb1
    obtain ⟨u0,u1,u2,u3⟩ : _ ∧ _ ∧ _ ∧ _:=⟨hco.at' 0 _ rfl,hco.at' 1 _ rfl,hco.at' 2 _ rfl,hco.at' 3 _ rfl⟩
    have hlt:=hco.lt
    have HB1:=zHe (zAB (zAA (Below.refl w.heap.size w) (.cells #[.int .i64 a0_0,.int .i64 a0_1,.int .i64 a0_2,.int .i64 a0_3] 24)) hb1)
    clear hb1 hco
    go_wp2_with fail
    go_ret
    exact ⟨rfl,HB1.out⟩
  · have p1 : decide ((300 : Int) < (V.length : Int)) = false:=decide_eq_false (by omega)
    have p2 : decide ((16 : Int) < a0_0) = true:=decide_eq_true hx
    clear hx
    go_enter Tryz.func3,Tryz.ntmps3
    go_wp2_with fail
    refine (zAf _).mono ?_
    rintro e w1 ⟨rfl,hb1⟩
    have hco:=(IsObj.made w [i64 a0_0,i64 a0_1,i64 a0_2,i64 a0_3] 24).later hb1
    obtain ⟨u0,u1,u2,u3⟩ : _ ∧ _ ∧ _ ∧ _:=⟨hco.at' 0 _ rfl,hco.at' 1 _ rfl,hco.at' 2 _ rfl,hco.at' 3 _ rfl⟩
    have hlt:=hco.lt
    have HB1:=zHe (zAB (zAA (Below.refl w.heap.size w) (.cells #[.int .i64 a0_0,.int .i64 a0_1,.int .i64 a0_2,.int .i64 a0_3] 24)) hb1)
    clear hb1 hco
    go_wp2_with fail
    go_ret
    exact ⟨rfl,HB1.out⟩
  · have p1 : decide ((300 : Int) < (V.length : Int)) = false:=decide_eq_false (by omega)
    have p2 : decide ((16 : Int) < a0_0) = false:=decide_eq_false (by omega)
    have p3 : decide ((16 : Int) < a0_1) = true:=decide_eq_true hx
    clear hx hy
    go_enter Tryz.func3,Tryz.ntmps3
    go_wp2_with fail
    refine (zAf _).mono ?_
    rintro e w1 ⟨rfl,hb1⟩
    have hco:=(IsObj.made w [i64 a0_0,i64 a0_1,i64 a0_2,i64 a0_3] 24).later hb1
    obtain ⟨u0,u1,u2,u3⟩ : _ ∧ _ ∧ _ ∧ _:=⟨hco.at' 0 _ rfl,hco.at' 1 _ rfl,hco.at' 2 _ rfl,hco.at' 3 _ rfl⟩
    have hlt:=hco.lt
    have HB1:=zHe (zAB (zAA (Below.refl w.heap.size w) (.cells #[.int .i64 a0_0,.int .i64 a0_1,.int .i64 a0_2,.int .i64 a0_3] 24)) hb1)
    clear hb1 hco
    go_wp2_with fail
    go_ret
    exact ⟨rfl,HB1.out⟩
  have p1 : decide ((300 : Int) < (V.length : Int)) = false:=decide_eq_false (by omega)
  have p2 : decide ((16 : Int) < a0_0) = false:=decide_eq_false (by omega)
  have p3 : decide ((16 : Int) < a0_1) = false:=decide_eq_false (by omega)
  have HXY:=zHe (And.intro hx hy)
  clear hx hy
  have HB0:=zHe (zAA (Below.refl w.heap.size w) (.cells #[.int .i64 a0_0,.int .i64 a0_1,.int .i64 a0_2,.int .i64 a0_3] 24))
  have HC0:=zHe (IsObj.made w [i64 a0_0,i64 a0_1,i64 a0_2,i64 a0_3] 24)
  have HV0:=zHe (HV.out.later (zAA (Below.refl _ _) (.cells #[.int .i64 a0_0,.int .i64 a0_1,.int .i64 a0_2,.int .i64 a0_3] 24)))
  clear HV
  go_enter Tryz.func3,Tryz.ntmps3
  go_wp2_with fail
  generalize w.alloc (.cells #[.int .i64 a0_0,.int .i64 a0_1,.int .i64 a0_2,.int .i64 a0_3] 24) = w0 at HB0 HC0 HV0 ⊢
  generalize w.heap.size = cb at HC0 ⊢
  refine (zAf _).mono ?_
  rintro e w1 ⟨rfl,hb1⟩
  have HB1:=zHe (zAB HB0.out hb1)
  have HV1:=zHe (HV0.out.later hb1)
  have HC1:=zHe (HC0.out.later hb1)
  clear hb1 HB0 HV0 HC0
  obtain ⟨u0,u1,u2,u3⟩ : _ ∧ _ ∧ _ ∧ _:=⟨HC1.out.at' 0 _ rfl,HC1.out.at' 1 _ rfl,HC1.out.at' 2 _ rfl,HC1.out.at' 3 _ rfl⟩
  have hltc:=HC1.out.lt
  have HH0:=((Hold.nil (Below.refl w1.heap.size w1)).more (A:=tObj w1.heap.size w1.heap.size [i64 a0_0,i64 a0_1,i64 a0_2,i64 a0_3,.slice none (0) 0]) (zAA (Below.refl _ _) (.cells #[.int .i64 a0_0,.int .i64 a0_1,.int .i64 a0_2,.int .i64 a0_3,.slice none (0) 0] 29)) (zAT _ _ _) ⟨IsObj.made _ [i64 a0_0,i64 a0_1,i64 a0_2,i64 a0_3,.slice none (0) 0] 29,Nat.le_refl _⟩ (fun q hq=>by cases hq; exact Nat.le_refl _)).more (A:=tRow w1.heap.size 39 7 (.slice none 0 0) 0 []) (Below.refl _ _) (zAy _ _ _ _ _ _) (World.ownsRow_nil _ _ _ _) (fun q hq=>by cases hq)
  have HH:=zHe HH0
  have HVF:=zHe HV1.out.fit
  clear HH0
  go_wp2_with fail
  clear u0 u1 u2 u3 hltc p1 p2 p3
  obtain ⟨sb,hsb⟩ : ∃ sb,w1.heap.size = sb:=⟨_,rfl⟩
  rw [hsb]
  rw [show tObj w1.heap.size w1.heap.size [i64 a0_0,i64 a0_1,i64 a0_2,i64 a0_3,.slice none (0) 0] = tObj w1.heap.size sb [i64 a0_0,i64 a0_1,i64 a0_2,i64 a0_3,.slice none (0) 0] by rw [hsb]] at HH
  clear hsb
  go_loopw [40] (fun iv wr => ∃ (i : Nat) (A1 : Option Addr) (cp1 : Nat),i ≤ V.length ∧ iv = .int .i64 i ∧ Hid (Hold w1 wr [tObj w1.heap.size sb [i64 a0_0,i64 a0_1,i64 a0_2,i64 a0_3,.slice A1 (i) cp1],tRow w1.heap.size 39 7 (.slice A1 (i) cp1) (i) (flatM (mkL (V.take i)))])) (fun iv _=>V.length - (RowKit.intOf iv).toNat)
  case atStart=>exact ⟨0,none,0,Nat.zero_le _,rfl,HH⟩
  case round =>
    clear HH
    obtain ⟨i,A1,cp1,hi,rfl,HH⟩:=hrel
    rcases Nat.lt_or_ge i V.length with hil | hil
    · have hil' : (i : Int) < (V.length : Int):=by omega
      obtain ⟨v,hv⟩ : ∃ v,V[i]? = some v:=⟨_,List.getElem?_eq_getElem hil⟩
      obtain ⟨b,off,rfl,hat⟩:=HV1.out.at' i v hv
      have HTK:=zHe (zD8 hv)
      obtain ⟨e0,e1,e2,e3,e4,e5,e6,e7⟩:=hat.later (HH.out.below)
      have hcap:=HV1.out.cap
      obtain ⟨m,hm⟩ : ∃ m,v.make = m:=⟨_,rfl⟩
      have HMK:=zHe (fun w=>zCq v w)
      rw [hm] at HMK HTK
      have HN:=zHe (HH.out.more (A:=tObj w1.heap.size wr.heap.size v.list) (zAA (Below.refl _ _) (v.obj 32)) (zAT _ _ _) ⟨IsObj.made wr v.list 32,HH.out.size⟩ (fun q hq=>by cases hq; exact Nat.le_refl _))
      clear hat hv hm HH
      go_wp2_with fail
      clear e0 e1 e2 e3 e4 e5 e6 e7
      generalize wr.alloc (v.obj 32) = wv at HN ⊢
      generalize wr.heap.size = vb at HN ⊢
      replace HN:=zHe HN.out.drew
      refine zAY (fun w'=>w'.cell? ⟨vb,0,none⟩ = some (i64 v.kind) ∧ w'.cell? ⟨vb,1,none⟩ = some (i64 v.who) ∧ w'.cell? ⟨vb,2,none⟩ = some (i64 v.n) ∧ w'.cell? ⟨vb,3,none⟩ = some (i64 v.start) ∧ w'.cell? ⟨vb,4,none⟩ = some (.bool v.take) ∧ w'.cell? ⟨vb,5,none⟩ = some (.bool v.right) ∧ w'.cell? ⟨vb,6,none⟩ = some (.int .u64 v.value) ∧ w'.cell? ⟨vb,7,none⟩ = some (i64 v.odd)) (.take 0 (.take 2 (.two 1 (.one 3 (.one 4 (.one 5 (.take 6 (.one 7 .nil))))) 3 (.two 1 (.one 4 (.one 5 (.take 6 (.one 7 .nil)))) 4 (.one 1 (.one 5 (.take 6 (.one 7 .nil)))))))) (by kernel_rfl) (by kernel_rfl) (by kernel_rfl) (by decide) (fun _ _ _ _ _ h=>h) (vcells (HN.out.has 2 _ rfl : IsObj _ vb v.list ∧ _).1) ?_
      repeat (refine zAP (v := ?_) rfl ?_ ?_ ?_; rotate_left 1; rfl; (focus (intro wS hSw; obtain ⟨x0,x1,x2,x3,x4,x5,x6,x7⟩:=hSw; go_simp; first | done | with_reducible rfl)); (try simp only [Act.put,List.setIfInBounds_toArray,List.set_cons_zero,List.set_cons_succ]))
      refine ⟨?_, ?_⟩
      · refine runT rfl (fun K hK=>?_)
        have s4:=(HN.out.has 0 _ rfl : IsObj _ sb [i64 a0_0,i64 a0_1,i64 a0_2,i64 a0_3,.slice A1 (i) cp1] ∧ _).1.at' 4 _ rfl
        go_simp
        clear s4
        refine hK.out _ _ (vcells (HN.out.has 2 _ rfl : IsObj _ vb v.list ∧ _).1) (fun _=>?_)
        (try simp only [Act.put,List.setIfInBounds_toArray,List.set_cons_zero,List.set_cons_succ])
        clear hK K
        refine runT rfl (fun K hK=>?_)
        go_simp
        go_at_call 10
        refine (HMK.out _).mono ?_
        rintro r w3 ⟨rfl,hb3⟩
        (try go_wp2_with fail)
        replace HN:=zHe (HN.out.later hb3)
        clear hb3
        refine hK.out _ _ (vcells (HN.out.has 2 _ rfl : IsObj _ vb v.list ∧ _).1) (fun _=>?_)
        (try simp only [Act.put,List.setIfInBounds_toArray,List.set_cons_zero,List.set_cons_succ])
        clear hK K
        refine runT rfl (fun K hK=>?_)
        go_simp
        replace HN:=zHe (HN.out.later (zAA (Below.refl _ _) (m.obj 39)))
        refine hK.out _ _ (vcells (HN.out.has 2 _ rfl : IsObj _ vb v.list ∧ _).1) (fun _=>?_)
        (try simp only [Act.put,List.setIfInBounds_toArray,List.set_cons_zero,List.set_cons_succ])
        clear hK K
        refine runT rfl (fun K hK=>?_)
        refine zAO rfl _ _ 27 rfl w1.heap.size 39 _ 7 56 zBM (.slice A1 (i) cp1) (i) (flatM (mkL (V.take i))) rfl (HN.out.has 1 _ rfl) (some ⟨_,0,none⟩) 1 1 m.list rfl (zBN _ _ m (by simp)) (by unfold maxLen; omega) (by omega) HN.out.size ?_
        intro v' w8 hG
        obtain ⟨A3,cp3,rfl⟩:=zAK hG.own
        replace HN:=zHe (HN.out.append 1 rfl rfl hG)
        clear hG
        refine hK.out _ _ (vcells (HN.out.has 2 _ rfl : IsObj _ vb v.list ∧ _).1) (fun _=>?_)
        (try simp only [Act.put,List.setIfInBounds_toArray,List.set_cons_zero,List.set_cons_succ])
        clear hK K
        repeat (refine zAP (v := ?_) rfl ?_ ?_ ?_; rotate_left 1; rfl; (focus (intro wS hSw; obtain ⟨x0,x1,x2,x3,x4,x5,x6,x7⟩:=hSw; go_simp; first | done | with_reducible rfl)); (try simp only [Act.put,List.setIfInBounds_toArray,List.set_cons_zero,List.set_cons_succ]))
        refine runT rfl (fun K hK=>?_)
        have hs8:=(HN.out.has 0 _ rfl : IsObj _ sb [i64 a0_0,i64 a0_1,i64 a0_2,i64 a0_3,.slice A1 (i) cp1] ∧ _).1
        have z4:=hs8.at' 4 _ rfl
        have y4:=hs8.fz 4
        clear hs8
        go_simp
        replace HN:=zHe (HN.out.cdSet 0 rfl 4 (.slice A3 (i + 1) cp3))
        clear z4 y4
        refine hK.out _ _ (vcells (HN.out.has 2 _ rfl : IsObj _ vb v.list ∧ _).1) (fun _=>?_)
        (try simp only [Act.put,List.setIfInBounds_toArray,List.set_cons_zero,List.set_cons_succ])
        clear hK K
        refine zAL ?_
        have HH9 : Hid (Hold w1 _ [tObj w1.heap.size sb [i64 a0_0,i64 a0_1,i64 a0_2,i64 a0_3,.slice A3 (i + 1) cp3],tRow w1.heap.size 39 7 (.slice A3 (i + 1) cp3) (i + 1) (flatM (mkL (V.take (i + 1))))]):=zHe (by
          have h:=HN.out.less (m:=[_]) (l:=[_,_])
          rw [HTK.out,zAU,show flatM [m] = m.list by rw [flatM,flatM,List.append_nil]]
          exact h)
        clear HN
        go_wp2_with fail
        go_roundw
        case rel=>exact ⟨i + 1,A3,cp3,by omega,by go_num,HH9⟩
        case measure=>first | omega | (simp [RowKit.intOf]; done) | (simp [RowKit.intOf]; omega)
      · refine runT rfl (fun K hK=>?_)
        go_simp
        go_at_call 10
        refine (HMK.out _).mono ?_
        rintro r w3 ⟨rfl,hb3⟩
        (try go_wp2_with fail)
        replace HN:=zHe (HN.out.later hb3)
        clear hb3
        refine hK.out _ _ (vcells (HN.out.has 2 _ rfl : IsObj _ vb v.list ∧ _).1) (fun _=>?_)
        (try simp only [Act.put,List.setIfInBounds_toArray,List.set_cons_zero,List.set_cons_succ])
        clear hK K
        refine ⟨?_, ?_⟩
        · refine runT rfl (fun K hK=>?_)
          have s4:=(HN.out.has 0 _ rfl : IsObj _ sb [i64 a0_0,i64 a0_1,i64 a0_2,i64 a0_3,.slice A1 (i) cp1] ∧ _).1.at' 4 _ rfl
          go_simp
          clear s4
          refine hK.out _ _ (vcells (HN.out.has 2 _ rfl : IsObj _ vb v.list ∧ _).1) (fun _=>?_)
          (try simp only [Act.put,List.setIfInBounds_toArray,List.set_cons_zero,List.set_cons_succ])
          clear hK K
          refine runT rfl (fun K hK=>?_)
          go_simp
          replace HN:=zHe (HN.out.later (zAA (Below.refl _ _) (m.obj 39)))
          refine hK.out _ _ (vcells (HN.out.has 2 _ rfl : IsObj _ vb v.list ∧ _).1) (fun _=>?_)
          (try simp only [Act.put,List.setIfInBounds_toArray,List.set_cons_zero,List.set_cons_succ])
          clear hK K
          refine runT rfl (fun K hK=>?_)
          refine zAO rfl _ _ 27 rfl w1.heap.size 39 _ 7 56 zBM (.slice A1 (i) cp1) (i) (flatM (mkL (V.take i))) rfl (HN.out.has 1 _ rfl) (some ⟨_,0,none⟩) 1 1 m.list rfl (zBN _ _ m (by simp)) (by unfold maxLen; omega) (by omega) HN.out.size ?_
          intro v' w8 hG
          obtain ⟨A3,cp3,rfl⟩:=zAK hG.own
          replace HN:=zHe (HN.out.append 1 rfl rfl hG)
          clear hG
          refine hK.out _ _ (vcells (HN.out.has 2 _ rfl : IsObj _ vb v.list ∧ _).1) (fun _=>?_)
          (try simp only [Act.put,List.setIfInBounds_toArray,List.set_cons_zero,List.set_cons_succ])
          clear hK K
          repeat (refine zAP (v := ?_) rfl ?_ ?_ ?_; rotate_left 1; rfl; (focus (intro wS hSw; obtain ⟨x0,x1,x2,x3,x4,x5,x6,x7⟩:=hSw; go_simp; first | done | with_reducible rfl)); (try simp only [Act.put,List.setIfInBounds_toArray,List.set_cons_zero,List.set_cons_succ]))
          refine runT rfl (fun K hK=>?_)
          have hs8:=(HN.out.has 0 _ rfl : IsObj _ sb [i64 a0_0,i64 a0_1,i64 a0_2,i64 a0_3,.slice A1 (i) cp1] ∧ _).1
          have z4:=hs8.at' 4 _ rfl
          have y4:=hs8.fz 4
          clear hs8
          go_simp
          replace HN:=zHe (HN.out.cdSet 0 rfl 4 (.slice A3 (i + 1) cp3))
          clear z4 y4
          refine hK.out _ _ (vcells (HN.out.has 2 _ rfl : IsObj _ vb v.list ∧ _).1) (fun _=>?_)
          (try simp only [Act.put,List.setIfInBounds_toArray,List.set_cons_zero,List.set_cons_succ])
          clear hK K
          refine zAL ?_
          have HH9 : Hid (Hold w1 _ [tObj w1.heap.size sb [i64 a0_0,i64 a0_1,i64 a0_2,i64 a0_3,.slice A3 (i + 1) cp3],tRow w1.heap.size 39 7 (.slice A3 (i + 1) cp3) (i + 1) (flatM (mkL (V.take (i + 1))))]):=zHe (by
            have h:=HN.out.less (m:=[_]) (l:=[_,_])
            rw [HTK.out,zAU,show flatM [m] = m.list by rw [flatM,flatM,List.append_nil]]
            exact h)
          clear HN
          go_wp2_with fail
          go_roundw
          case rel=>exact ⟨i + 1,A3,cp3,by omega,by go_num,HH9⟩
          case measure=>first | omega | (simp [RowKit.intOf]; done) | (simp [RowKit.intOf]; omega)
        · refine runT rfl (fun K hK=>?_)
          go_simp
          replace HN:=zHe (HN.out.later (zAA (Below.refl _ _) (m.obj 39)))
          refine hK.out _ _ (vcells (HN.out.has 2 _ rfl : IsObj _ vb v.list ∧ _).1) (fun _=>?_)
          (try simp only [Act.put,List.setIfInBounds_toArray,List.set_cons_zero,List.set_cons_succ])
          clear hK K
          refine runT rfl (fun K hK=>?_)
          have s4:=(HN.out.has 0 _ rfl : IsObj _ sb [i64 a0_0,i64 a0_1,i64 a0_2,i64 a0_3,.slice A1 (i) cp1] ∧ _).1.at' 4 _ rfl
          go_simp
          clear s4
          refine hK.out _ _ (vcells (HN.out.has 2 _ rfl : IsObj _ vb v.list ∧ _).1) (fun _=>?_)
          (try simp only [Act.put,List.setIfInBounds_toArray,List.set_cons_zero,List.set_cons_succ])
          clear hK K
          refine runT rfl (fun K hK=>?_)
          refine zAO rfl _ _ 27 rfl w1.heap.size 39 _ 7 56 zBM (.slice A1 (i) cp1) (i) (flatM (mkL (V.take i))) rfl (HN.out.has 1 _ rfl) (some ⟨_,0,none⟩) 1 1 m.list rfl (zBN _ _ m (by simp)) (by unfold maxLen; omega) (by omega) HN.out.size ?_
          intro v' w8 hG
          obtain ⟨A3,cp3,rfl⟩:=zAK hG.own
          replace HN:=zHe (HN.out.append 1 rfl rfl hG)
          clear hG
          refine hK.out _ _ (vcells (HN.out.has 2 _ rfl : IsObj _ vb v.list ∧ _).1) (fun _=>?_)
          (try simp only [Act.put,List.setIfInBounds_toArray,List.set_cons_zero,List.set_cons_succ])
          clear hK K
          repeat (refine zAP (v := ?_) rfl ?_ ?_ ?_; rotate_left 1; rfl; (focus (intro wS hSw; obtain ⟨x0,x1,x2,x3,x4,x5,x6,x7⟩:=hSw; go_simp; first | done | with_reducible rfl)); (try simp only [Act.put,List.setIfInBounds_toArray,List.set_cons_zero,List.set_cons_succ]))
          refine runT rfl (fun K hK=>?_)
          have hs8:=(HN.out.has 0 _ rfl : IsObj _ sb [i64 a0_0,i64 a0_1,i64 a0_2,i64 a0_3,.slice A1 (i) cp1] ∧ _).1
          have z4:=hs8.at' 4 _ rfl
          have y4:=hs8.fz 4
          clear hs8
          go_simp
          replace HN:=zHe (HN.out.cdSet 0 rfl 4 (.slice A3 (i + 1) cp3))
          clear z4 y4
          refine hK.out _ _ (vcells (HN.out.has 2 _ rfl : IsObj _ vb v.list ∧ _).1) (fun _=>?_)
          (try simp only [Act.put,List.setIfInBounds_toArray,List.set_cons_zero,List.set_cons_succ])
          clear hK K
          refine zAL ?_
          have HH9 : Hid (Hold w1 _ [tObj w1.heap.size sb [i64 a0_0,i64 a0_1,i64 a0_2,i64 a0_3,.slice A3 (i + 1) cp3],tRow w1.heap.size 39 7 (.slice A3 (i + 1) cp3) (i + 1) (flatM (mkL (V.take (i + 1))))]):=zHe (by
            have h:=HN.out.less (m:=[_]) (l:=[_,_])
            rw [HTK.out,zAU,show flatM [m] = m.list by rw [flatM,flatM,List.append_nil]]
            exact h)
          clear HN
          go_wp2_with fail
          go_roundw
          case rel=>exact ⟨i + 1,A3,cp3,by omega,by go_num,HH9⟩
          case measure=>first | omega | (simp [RowKit.intOf]; done) | (simp [RowKit.intOf]; omega)
    · obtain rfl : i = V.length:=by omega
      have hnn : ¬ (V.length : Int) < (V.length : Int):=by omega
      rw [List.take_length] at HH
      obtain ⟨S,hS⟩ : ∃ S,mkL V = S:=⟨_,rfl⟩
      have HFS : Hid (∀ m ∈ S,m.Fit):=zHe (hS ▸ zE2 HVF.out)
      have hSl : S.length = V.length:=by rw [← hS,zFa]
      rw [hS] at HH
      have hSn : S.length ≤ 300:=by omega
      rw [← hSl] at HH hnn ⊢
      clear hS hil hi HV1 HVF hSl
      have hs0:=(HH.out.has 0 _ rfl : IsObj wr sb [i64 a0_0,i64 a0_1,i64 a0_2,i64 a0_3,.slice A1 (S.length) cp1] ∧ _).1
      obtain ⟨q0,q1,q2,q3,q4⟩ : _ ∧ _ ∧ _ ∧ _ ∧ _:=⟨hs0.at' 0 _ rfl,hs0.at' 1 _ rfl,hs0.at' 2 _ rfl,hs0.at' 3 _ rfl,hs0.at' 4 _ rfl⟩
      have HIS:=zHe (IsAt.own (show wr.ownsRow w1.heap.size 39 7 (.slice A1 S.length cp1) S.length (flatM S) from HH.out.has 1 _ rfl))
      have HCr:=zHe (HC1.out.later HH.out.below)
      have HBr:=zHe (zAB HB1.out HH.out.below)
      have HSr:=zHe hs0
      clear hs0 HC1 HB1 HH
      rcases hr : rightC a0_0 a0_1 a0_2 a0_3 with _ | _
      · have HR:=zHe hr
        clear hr
        go_wp2_with fail
        refine (zFK a0_0 a0_1 a0_2 a0_3 (.slice A1 S.length cp1) _ HR.out).mono ?_
        rintro r w3 ⟨rfl,hb3⟩
        have hco:=HCr.out.later hb3
        obtain ⟨u0,u1,u2,u3⟩ : _ ∧ _ ∧ _ ∧ _:=⟨hco.at' 0 _ rfl,hco.at' 1 _ rfl,hco.at' 2 _ rfl,hco.at' 3 _ rfl⟩
        have HB3:=zHe (zAB HBr.out hb3)
        clear hco hb3 q0 q1 q2 q3 q4
        go_wp2_with fail
        refine (zAi a0_0 a0_1 a0_2 a0_3 _).mono ?_
        rintro r w4 ⟨rfl,hb4⟩
        have HB4:=zHe (zAB HB3.out hb4)
        rw [HR.out]
        clear hb4 u0 u1 u2 u3
        go_wp2_with fail
        go_ret
        exact ⟨rfl,HB4.out⟩
      obtain ⟨T,N,rfl,hlay,o0,o1,d0,d1⟩:=zBh hr
      have HR:=zHe hr
      have HLAY:=zHe hlay
      have HOD:=zHe (And.intro o0 (And.intro o1 (And.intro d0 d1)))
      have hT16 : T ≤ 16:=by have:=HXY.out.1; omega
      clear hr hlay o0 o1 d0 d1
      go_wp2_with fail
      refine (zBy T a0_1 a0_2 a0_3 N A1 cp1 S _ HIS.out HFS.out (by omega) HLAY.out HOD.out.1 HOD.out.2.1 HOD.out.2.2.1 HOD.out.2.2.2).mono ?_
      rintro r w3 ⟨W,l1,yb,ytb,p,c,Yf,An,J,g,rfl,hb3,hP⟩
      have HP:=zHe hP
      have hbz:=zAB hb3 hP.yd.h.below
      have HB3:=zHe (zAB HBr.out hbz)
      have HC3:=zHe (HCr.out.later hbz)
      have HS3:=zHe (HSr.out.later hbz)
      have HIS3:=zHe (HIS.out.later hbz)
      clear hb3 hP hbz HBr HCr HSr HIS q0 q1 q2 q3 q4
      obtain ⟨u0,u1,u2,u3⟩ : _ ∧ _ ∧ _ ∧ _:=⟨HC3.out.at' 0 _ rfl,HC3.out.at' 1 _ rfl,HC3.out.at' 2 _ rfl,HC3.out.at' 3 _ rfl⟩
      go_wp2_with fail
      refine (zAi T a0_1 a0_2 a0_3 _).mono ?_
      rintro r w4 ⟨rfl,hb4⟩
      rw [HR.out]
      have HYa:=zHe (HP.out.yd.later hb4)
      have HB4:=zHe (zAB HB3.out hb4)
      have HC4:=zHe (HC3.out.later hb4)
      have HS4:=zHe (HS3.out.later hb4)
      have HIS4:=zHe (HIS3.out.later hb4)
      have HX4 : Hid (IsObj w4 g (An.map (fun a=>.int .i64 a))):=zHe (HYa.out.has HP.out.row).1
      have HTR:=zHe HP.out.tr
      have HAL : Hid (An.length = S.length):=zHe HP.out.tr.len
      clear hb4 HB3 HC3 HS3 HIS3 HP u0 u1 u2 u3
      obtain ⟨u0,u1,u2,u3⟩ : _ ∧ _ ∧ _ ∧ _:=⟨HC4.out.at' 0 _ rfl,HC4.out.at' 1 _ rfl,HC4.out.at' 2 _ rfl,HC4.out.at' 3 _ rfl⟩
      go_wp2_with fail
      refine (zC5 (W:=w4) T a0_1 a0_2 a0_3 N (Below.refl _ _) HLAY.out HOD.out.1 HOD.out.2.1 HOD.out.2.2.1 HOD.out.2.2.2).mono ?_
      rintro r w5 ⟨yb2,ytb2,p2,c2,l0,rfl,hl4,hY,hb,hyb⟩
      obtain ⟨J0,hd0⟩ : ∃ J0,YdL w4 w5 l0 ⟨yb2,ytb2,p2,c2,T,a0_1,a0_2,a0_3,T⟩ N (Yf 0) J0 0:=by
        rw [HTR.out.tr.zero]
        exact ⟨_,YdL.start HLAY.out HOD.out.1 HOD.out.2.1 HOD.out.2.2.1 HOD.out.2.2.2 hY⟩
      have HD0:=zHe hd0
      have HS5:=zHe (HS4.out.later hd0.h.below)
      clear hl4 hY hb hyb hd0 u0 u1 u2 u3 HC4
      have q4:=HS5.out.at' 4 _ rfl
      clear HS5
      go_wp2_with fail
      clear q4
      go_loopw [94] (fun iv wr => ∃ (i : Nat) (l : List Thing) (J : Nat → Nat),i ≤ S.length ∧ iv = .int .i64 i ∧ Hid (YdL w4 wr l ⟨yb2,ytb2,p2,c2,T,a0_1,a0_2,a0_3,T⟩ N (Yf i) J i)) (fun iv _=>S.length - (RowKit.intOf iv).toNat)
      case atStart=>exact ⟨0,l0,J0,Nat.zero_le _,rfl,HD0⟩
      case round =>
        clear HD0
        obtain ⟨i,l,Ji,hi,rfl,HD⟩:=hrel
        rcases Nat.lt_or_ge i S.length with hil | hil
        · have hil' : (i : Int) < (S.length : Int):=by omega
          obtain ⟨mm,hm⟩ : ∃ mm,S[i]? = some mm:=⟨_,List.getElem?_eq_getElem hil⟩
          obtain ⟨a,ha⟩ : ∃ a,An[i]? = some a:=⟨_,List.getElem?_eq_getElem (by rw [HAL.out]; exact hil)⟩
          have HDO:=zHe ((HTR.out.at' i mm a hm ha).like (B':=⟨yb2,ytb2,p2,c2,T,a0_1,a0_2,a0_3,T⟩) ⟨rfl,rfl,rfl,rfl,rfl⟩)
          have HXI:=zHe (HX4.out.at' i (.int .i64 a) (by rw [List.getElem?_map,ha]; rfl))
          have hgl:=HX4.out.lt
          have HGL:=zHe hgl
          obtain ⟨bb,off,rfl,hbl,hc⟩:=(HIS4.out.later HD.out.h.below).move hm
          have HMF:=zHe (HFS.out mm (List.mem_of_getElem? hm))
          obtain ⟨k,who,ck,ce,x,st,n⟩:=mm
          obtain ⟨c0,c1,c2',c3,c4,c5,c6⟩:=hc
          simp only at c0 c1 c2' c3 c4 c5 c6
          clear hm ha hgl
          have HD1:=zHe (HD.out.more (A:=tObj w4.heap.size wr.heap.size [i64 k,i64 who,i64 ck,i64 ce,.int .u64 x,i64 st,i64 n]) (zAA (Below.refl _ _) ((⟨k,who,ck,ce,x,st,n⟩ : CM).obj 39)) (zAT _ _ _) ⟨IsObj.made wr [i64 k,i64 who,i64 ck,i64 ce,.int .u64 x,i64 st,i64 n] 39,HD.out.h.size⟩ (fun q hq=>by cases hq; exact Nat.le_refl _))
          have HR1:=zHe (HD.out.rest (tObj w4.heap.size wr.heap.size [i64 k,i64 who,i64 ck,i64 ce,.int .u64 x,i64 st,i64 n]))
          clear HD
          go_wp2_with fail
          clear c0 c1 c2' c3 c4 c5 c6 hbl
          generalize wr.alloc ((⟨k,who,ck,ce,x,st,n⟩ : CM).obj 39) = wm at HD1 ⊢
          generalize wr.heap.size = mb at HD1 HR1 ⊢
          generalize l ++ [tObj w4.heap.size mb [i64 k,i64 who,i64 ck,i64 ce,.int .u64 x,i64 st,i64 n]] = lm at HD1 HR1
          generalize l.length = jm at HR1
          have hS : ∀ (wx : World) (lx : List Thing) (Yx : Yd) (Jx : Nat → Nat) (nx : Nat),YdL w4 wx lx ⟨yb2,ytb2,p2,c2,T,a0_1,a0_2,a0_3,T⟩ N Yx Jx nx → Rest Yx lx Jx jm (tObj w4.heap.size mb [i64 k,i64 who,i64 ck,i64 ce,.int .u64 x,i64 st,i64 n]) → wx.cell? ⟨g,i,none⟩ = some (.int .i64 a) ∧ wx.cell? ⟨mb,0,none⟩ = some (i64 k) ∧ wx.cell? ⟨mb,1,none⟩ = some (i64 who) ∧ wx.cell? ⟨mb,2,none⟩ = some (i64 ck) ∧ wx.cell? ⟨mb,3,none⟩ = some (i64 ce) ∧ wx.cell? ⟨mb,4,none⟩ = some (.int .u64 x) ∧ wx.cell? ⟨mb,5,none⟩ = some (i64 st) ∧ wx.cell? ⟨mb,6,none⟩ = some (i64 n):=fun wx lx Yx Jx nx hd hr=>by
            have hob:=(hd.has hr : IsObj wx mb [i64 k,i64 who,i64 ck,i64 ce,.int .u64 x,i64 st,i64 n] ∧ _).1
            exact ⟨(hd.h.below.cell (p:=⟨g,i,none⟩) HGL.out).trans HXI.out,hob.at' 0 _ rfl,hob.at' 1 _ rfl,hob.at' 2 _ rfl,hob.at' 3 _ rfl,hob.at' 4 _ rfl,hob.at' 5 _ rfl,hob.at' 6 _ rfl⟩
          have HS:=zHe hS
          clear hS
          refine zAE ((fun wx=>wx.cell? ⟨g,i,none⟩ = some (.int .i64 a) ∧ wx.cell? ⟨mb,0,none⟩ = some (i64 k) ∧ wx.cell? ⟨mb,1,none⟩ = some (i64 who) ∧ wx.cell? ⟨mb,2,none⟩ = some (i64 ck) ∧ wx.cell? ⟨mb,3,none⟩ = some (i64 ce) ∧ wx.cell? ⟨mb,4,none⟩ = some (.int .u64 x) ∧ wx.cell? ⟨mb,5,none⟩ = some (i64 st) ∧ wx.cell? ⟨mb,6,none⟩ = some (i64 n))) ((0,true) :: (1,true) :: (2,true) :: (3,true) :: (4,true) :: (5,true) :: (6,false) :: (7,true) :: []) (by kernel_rfl) (by kernel_rfl) (by kernel_rfl) (by decide) (fun _ _ _ _ _ h=>h) ((HS.out _ _ _ _ _ (HD1.out.later (zAB (Below.refl _ _).drew (Below.refl _ _))) HR1.out)) ?_
          repeat (first | (refine zAD (v := ?_) rfl ?_ ?_ ?_; rotate_left 1; rfl; (focus (intro wS hSw; obtain ⟨e0,e1,e2,e3,e4,e5,e6,e7⟩:=hSw; go_simp; first | done | with_reducible rfl)); (try simp only [Act.put,List.setIfInBounds_toArray,List.set_cons_zero,List.set_cons_succ])) | (refine zAC rfl ?_ ?_; rfl; (try simp only [Act.put,List.setIfInBounds_toArray,List.set_cons_zero,List.set_cons_succ])))
          refine zAG rfl (fun K hK=>?_)
          go_simp
          go_at_call 14
          refine (zCi (HD1.out.later (zAB (Below.refl _ _).drew (Below.refl _ _))) (by omega) ⟨k,who,ck,ce,x,st,n⟩ HMF.out).mono ?_
          rintro r w6 ⟨a',l',J',Y',rfl,hdo,hd,hg⟩
          obtain ⟨rfl,rfl⟩:=hdo.det HDO.out HD1.out.ok HD1.out.hT HD1.out.h.fit
          have HD6:=zHe hd
          have HR6:=zHe (HR1.out.go hg)
          clear hdo hd hg
          (try go_wp2_with fail)
          refine hK.out _ _ (HS.out _ _ _ _ _ HD6.out HR6.out) (fun _=>?_)
          (try simp only [Act.put,List.setIfInBounds_toArray,List.set_cons_zero,List.set_cons_succ])
          clear hK K
          repeat (first | (refine zAD (v := ?_) rfl ?_ ?_ ?_; rotate_left 1; rfl; (focus (intro wS hSw; obtain ⟨e0,e1,e2,e3,e4,e5,e6,e7⟩:=hSw; go_simp; first | done | with_reducible rfl)); (try simp only [Act.put,List.setIfInBounds_toArray,List.set_cons_zero,List.set_cons_succ])) | (refine zAC rfl ?_ ?_; rfl; (try simp only [Act.put,List.setIfInBounds_toArray,List.set_cons_zero,List.set_cons_succ])))
          refine zAH ?_
          clear HD1 HR1 HS
          go_wp2_with fail
          go_roundw
          case rel=>exact ⟨i + 1,l',J',by omega,by go_num,HD6⟩
          case measure=>first | omega | (simp [RowKit.intOf]; done) | (simp [RowKit.intOf]; omega)
        · obtain rfl : i = S.length:=by omega
          have hnn : ¬ (S.length : Int) < (S.length : Int):=by omega
          have HA5:=zHe (HYa.out.later HD.out.h.below)
          have HS5:=zHe (HS4.out.later HD.out.h.below)
          have HIS5:=zHe (HIS4.out.later HD.out.h.below)
          have HX5:=zHe (HX4.out.later HD.out.h.below)
          have HB5:=zHe (zAB HB4.out HD.out.h.below)
          clear HYa HS4 HIS4 HX4 HB4
          go_wp2_with fail
          refine (zBF HA5.out HD.out (by omega) (by omega) (by show T ≤ 1000; omega) (by show T ≤ 1000; omega) rfl rfl rfl).mono ?_
          rintro r w6 ⟨rfl,hb6⟩
          have HA6:=zHe (HA5.out.later hb6)
          have HS6:=zHe (HS5.out.later hb6)
          have HIS6:=zHe (HIS5.out.later hb6)
          have HX6:=zHe (HX5.out.later hb6)
          have HB6:=zHe (zAB HB5.out hb6)
          clear hb6 HA5 HS5 HIS5 HX5 HB5 HD
          obtain ⟨q0,q1,q2,q3,q4⟩ : _ ∧ _ ∧ _ ∧ _ ∧ _:=⟨HS6.out.at' 0 _ rfl,HS6.out.at' 1 _ rfl,HS6.out.at' 2 _ rfl,HS6.out.at' 3 _ rfl,HS6.out.at' 4 _ rfl⟩
          have hlts:=HS6.out.lt
          go_wp2_with fail
          refine (zCX T a0_1 a0_2 a0_3 A1 cp1 S _ HIS6.out HFS.out (by omega)).mono ?_
          rintro r w7 ⟨vE,eE,rfl,hb7,hE⟩
          have HA7:=zHe (HA6.out.later hb7)
          have HX7:=zHe (HX6.out.later hb7)
          have HB7:=zHe (zAB HB6.out hb7)
          clear hb7 HA6 HS6 HIS6 HX6 HB6 q0 q1 q2 q3 q4 hlts
          by_cases hmr : ∀ m ∈ S,m.Right
          case neg =>
            obtain ⟨rfl,rfl⟩:=hE.no HR.out (by omega) hmr
            clear hE hmr
            go_wp2_with fail
            refine (zBE none [] 0 w7 (isAt_none _) (fun b hb=>by cases hb) (Nat.le_refl _) (by decide)).mono ?_
            rintro r w8 (⟨w9,v',n',e',hD',he',rfl,hb⟩ | ⟨T',s',so',d',N',ms',W',lx,yb',ytb',p',c',Yf',An',J',g',hP'⟩)
            · obtain rfl:=hD'.none
              have HB8:=zHe (zAB HB7.out hb)
              clear hD' he' hb
              go_wp2_with fail
              go_ret
              exact ⟨rfl,HB8.out⟩
            · have:=hP'.is
              cases this
          case pos =>
          obtain ⟨rfl,ho⟩:=hE.yes HR.out (by omega) hmr
          obtain ⟨Ab,cpb,rfl⟩:=zAK ho
          have HIB:=zHe (IsAt.own ho)
          have hcb:=zCA ho
          have HSG:=zHe (fun m (hm : m ∈ S)=>(And.intro (hmr m hm) (HFS.out m hm) : m.Good))
          have HBY:=zHe (zCm HR.out hmr)
          have hlen : ([(T : Int),a0_1,a0_2,a0_3] ++ encs S).length ≤ 1000000:=by
            have:=zBc S
            rw [List.length_append]
            show 4 + _ ≤ _
            omega
          clear ho hE hmr
          obtain ⟨lb,hlb⟩ : ∃ lb,[(T : Int),a0_1,a0_2,a0_3] ++ encs S = lb:=⟨_,rfl⟩
          rw [hlb] at hcb hlen HIB HBY ⊢
          have HLB:=zHe hlb
          clear hlb
          go_wp2_with fail
          refine (zBE Ab lb cpb w7 HIB.out HBY.out hcb hlen).mono ?_
          rintro r w8 (⟨w9,v',n',e',hD',he',rfl,hb⟩ | ⟨T',s',so',d',N',ms',W',lx,yb',ytb',p',c',Yf',Bn,J',g',hP'⟩)
          · exact absurd (hD'.yes HLB.out.symm HR.out HSG.out (by omega)).1 he'
          obtain ⟨h1,h2,h3,h4,h5,rfl,h7,h8⟩:=hP'
          have e1:=HLB.out.trans h1
          simp only [List.cons_append,List.nil_append,List.cons.injEq] at e1
          obtain ⟨e2,rfl,rfl,rfl,e6⟩:=e1
          obtain rfl : T' = T:=by omega
          obtain rfl:=zCy HSG.out h2 e6
          obtain rfl : N' = N:=by
            have f1:=h5.eq
            have f2:=HLAY.out.eq
            rw [f1] at f2
            omega
          have HA8:=zHe (HA7.out.later (zAB h7 h8.yd.h.below))
          have HX8:=zHe (HX7.out.later (zAB h7 h8.yd.h.below))
          have HB8:=zHe (zAB HB7.out (zAB h7 h8.yd.h.below))
          have HZ8:=zHe h8.yd
          have HG8 : Hid (IsObj w8 g' (Bn.map (fun a=>.int .i64 a))):=zHe (h8.yd.has h8.row).1
          have hdet:=HTR.out.det h8.tr ⟨rfl,rfl,rfl,rfl,rfl⟩
          have HZE:=zHe (hdet.1 S.length (Nat.le_refl _))
          have HBE:=zHe hdet.2
          clear h1 h2 h3 h4 h5 h7 h8 e2 e6 hdet HA7 HX7 HB7 HIB HBY hcb hlen
          go_wp2_with fail
          go_loopw [147] (fun iv wr => ∃ i : Nat,i ≤ S.length ∧ iv = .int .i64 i ∧ Hid (Below w8.heap.size w8 wr)) (fun iv _=>S.length - (RowKit.intOf iv).toNat)
          case atStart=>exact ⟨0,Nat.zero_le _,rfl,zHe (Below.refl _ _)⟩
          case round =>
            obtain ⟨i,hi,rfl,HBi⟩:=hrel
            rcases Nat.lt_or_ge i S.length with hil | hil
            · have hil' : (i : Int) < (S.length : Int):=by omega
              obtain ⟨a,ha⟩ : ∃ a,An[i]? = some a:=⟨_,List.getElem?_eq_getElem (by rw [HAL.out]; exact hil)⟩
              have x0:=(HX8.out.later HBi.out).at' i (.int .i64 a) (by rw [List.getElem?_map,ha]; rfl)
              have x1:=(HG8.out.later HBi.out).at' i (.int .i64 a) (by rw [HBE.out,List.getElem?_map,ha]; rfl)
              clear ha
              go_wp2_with fail
              refine zAN ((0,true) :: (1,true) :: (2,true) :: (3,true) :: (4,true) :: (5,true) :: (6,true) :: (7,true) :: (8,true) :: []) (by kernel_rfl) (by kernel_rfl) (by kernel_rfl) (by decide) (fun _ _ _ _ _ h=>h) (fun hHeld=>?_)
              repeat (first
                | (refine zAD (v := ?_) rfl ?_ ?_ ?_; rotate_left 1; rfl; (focus (intro wS hSw; have hk:=zAM hSw; go_simp; first | done | with_reducible rfl)); (try simp only [Act.put,List.setIfInBounds_toArray,List.set_cons_zero,List.set_cons_succ]))
                | (refine zAC rfl ?_ ?_; rfl; (try simp only [Act.put,List.setIfInBounds_toArray,List.set_cons_zero,List.set_cons_succ]))
                | (refine zAG rfl (fun K hK=>?_); go_simp; (try skip); (try go_wp2_with fail); refine hK.out _ _ ?_ ?_; (focus (first | exact zAB hHeld hb' | exact zAA hHeld _ | exact hHeld)); (try clear hb'); clear hHeld hK K; intro hHeld; (try simp only [Act.put,List.setIfInBounds_toArray,List.set_cons_zero,List.set_cons_succ])))
              first | refine zAH ?_ | skip
              have HBj:=zHe (zAB HBi.out hHeld)
              clear hHeld x0 x1
              go_wp2_with fail
              go_roundw
              case rel=>exact ⟨i + 1,by omega,by go_num,HBj⟩
              case measure=>first | omega | (simp [RowKit.intOf]; done) | (simp [RowKit.intOf]; omega)
            · obtain rfl : i = S.length:=by omega
              have hnn : ¬ (S.length : Int) < (S.length : Int):=by omega
              have HA9:=zHe (HA8.out.later HBi.out)
              have HZ9:=zHe (HZ8.out.later HBi.out)
              have HB9:=zHe (zAB HB8.out HBi.out)
              clear HA8 HZ8 HB8 HBi
              go_wp2_with fail
              refine (zBF HZ9.out HA9.out (by omega) (by omega) (by show T' ≤ 1000; omega) (by show T' ≤ 1000; omega) (by rw [HZE.out]) (by rw [HZE.out]) (by rw [HZE.out])).mono ?_
              rintro r wz ⟨rfl,hbz⟩
              have HBz:=zHe (zAB HB9.out hbz)
              clear hbz
              go_wp2_with fail
              go_ret
              exact ⟨rfl,HBz.out⟩
end Go.Proofs.YtebgjfhaolgcjaaGreat
