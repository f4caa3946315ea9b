/- Contracts and plain lemmas that these laws need. No condition. -/
import Derived.Deep.CutBlock
import Derived.Deep.DeepCutAuto
import Derived.Test.YtjlpidjilonhfaaGreatQLI1
namespace Go.Proofs.YtjlpidjilonhfaaGreat
set_option linter.unusedVariables false
set_option maxHeartbeats 8000000
set_option maxRecDepth 100000
section
open Go.RowKit
def topEnd (mode : Int) (b : CM) : Int:=if mode < 2 then (if mode = 1 ∧ b.ck = 1 then 0 else 1) else b.ce
def topOne (T mode most : Int) (st : Int × Int × List CM) (v : LM) : Int × Int × List CM :=
 if v.base.k = 0 then
  if st.1 = most then st
  else if v.base.ck = 0 then (st.1 + 1,st.2.1 + 1,st.2.2 ++ [{ v.base with who:=v.base.who % T,ce:=topEnd mode v.base,v:=100 + (st.2.1 + 1) }])
  else (st.1 + 1,st.2.1,st.2.2 ++ [{ v.base with who:=v.base.who % T,ce:=topEnd mode v.base }])
 else if v.base.k = 2 then (st.1,st.2.1,st.2.2 ++ [v.base])
 else (st.1,st.2.1,st.2.2 ++ [{ v.base with who:=v.base.who % T }])
def topS (T mode most : Int) (V : List LM) : Int × Int × List CM:=V.foldl (topOne T mode most) (0,0,[])
theorem zFr (T mode most : Int) (V : List LM) (v : LM) : topS T mode most (V ++ [v]) = topOne T mode most (topS T mode most V) v:=by
 unfold topS
 rw [List.foldl_append]
 rfl
structure TopOk (T : Int) (st : Int × Int × List CM) (n : Nat) : Prop where
 c0 : 0 ≤ st.1
 c1 : st.1 ≤ n
 p0 : 0 ≤ st.2.1
 p1 : st.2.1 ≤ n
 len : st.2.2.length ≤ n
 right : ∀ m ∈ st.2.2,m.Good
 who : ∀ m ∈ st.2.2,m.k ≠ 2 → m.who < T
 has : ∀ m ∈ st.2.2,m.k = 0 → m.ck = 0 → 100 < m.v ∧ m.v ≤ 100 + st.2.1
 own : st.2.2.Pairwise (fun a b=>a.k = 0 → a.ck = 0 → b.k = 0 → b.ck = 0 → a.v < b.v)
theorem LM.base_beg {v : LM} (h : v.base.k = 0) : 0 ≤ v.base.who ∧ v.base.who < 64 ∧ v.base.n = 0 ∧ (v.base.ce = 0 ∨ v.base.ce = 1) ∧ ((v.base.ck = 0 ∧ v.base.st = 0) ∨ (v.base.ck = 1 ∧ v.base.v = 0 ∧ 0 ≤ v.base.st ∧ v.base.st ≤ 255)):=by
 unfold LM.base at h ⊢
 split
 ·split
  ·refine ⟨by show 0 ≤ v.who % 64; omega,by show v.who % 64 < 64; omega,rfl, ?_,.inr ⟨rfl,rfl,by show 0 ≤ v.start % 256; omega,by show v.start % 256 ≤ 255; omega⟩⟩
   cases v.right
   ·exact .inl rfl
   ·exact .inr rfl
  ·refine ⟨by show 0 ≤ v.who % 64; omega,by show v.who % 64 < 64; omega,rfl, ?_,.inl ⟨rfl,rfl⟩⟩
   cases v.right
   ·exact .inl rfl
   ·exact .inr rfl
 ·rename_i h0
  rw [if_neg h0] at h
  split at h
  ·exact absurd (show (2 : Int) = 0 from h) (by decide)
  ·exact absurd (show (1 : Int) = 0 from h) (by decide)
theorem LM.base_rest {v : LM} (h : v.base.k ≠ 0) : (v.base.k = 1 ∧ v.base = ⟨1,v.who % 64,0,0,0,0,0⟩) ∨ (v.base.k = 2 ∧ v.base = ⟨2,0,0,0,0,0,1 + v.n % 32768⟩):=by
 unfold LM.base at h ⊢
 split
 ·rename_i h0
  rw [if_pos h0] at h
  split at h
  ·exact absurd rfl h
  ·exact absurd rfl h
 ·split
  ·exact .inr ⟨rfl,rfl⟩
  ·exact .inl ⟨rfl,rfl⟩
theorem zFq (mode : Int) {b : CM} (h : b.ce = 0 ∨ b.ce = 1) : topEnd mode b = 0 ∨ topEnd mode b = 1:=by
 unfold topEnd
 split
 ·split
  ·exact .inl rfl
  ·exact .inr rfl
 ·exact h
theorem TopOk.start (T : Int) : TopOk T (0,0,[]) 0 :=
 ⟨Int.le_refl _,Int.le_refl _,Int.le_refl _,Int.le_refl _,Nat.le_refl _,fun m hm=>absurd hm List.not_mem_nil,fun m hm=>absurd hm List.not_mem_nil,fun m hm=>absurd hm List.not_mem_nil,List.Pairwise.nil⟩
theorem TopOk.more {T : Int} {c p c' p' : Int} {l : List CM} {n : Nat} (h : TopOk T (c,p,l) n) {m : CM} (hc : c ≤ c' ∧ c' ≤ c + 1) (hp : p ≤ p' ∧ p' ≤ p + 1) (hg : m.Good) (hw : m.k ≠ 2 → m.who < T) (hv : m.k = 0 → m.ck = 0 → m.v = 100 + p' ∧ p' = p + 1) : TopOk T (c',p',l ++ [m]) (n + 1):=by
 obtain ⟨h1,h2,h3,h4,h5,h6,h7,h8,h9⟩:=h
 simp only at h1 h2 h3 h4 h5 h6 h7 h8 h9
 refine ⟨by show 0 ≤ c'; omega,by show c' ≤ ((n + 1 : Nat) : Int); omega,by show 0 ≤ p'; omega,by show p' ≤ ((n + 1 : Nat) : Int); omega,by show (l ++ [m]).length ≤ n + 1; rw [List.length_append,List.length_singleton]; omega,fun x hx=>?_,fun x hx=>?_,fun x hx=>?_, ?_⟩
 ·rcases List.mem_append.1 hx with hx | hx
  ·exact h6 x hx
  ·rw [List.mem_singleton.1 hx]; exact hg
 ·rcases List.mem_append.1 hx with hx | hx
  ·exact h7 x hx
  ·rw [List.mem_singleton.1 hx]; exact hw
 ·intro k0 ck0
  show 100 < x.v ∧ x.v ≤ 100 + p'
  rcases List.mem_append.1 hx with hx | hx
  ·have:=h8 x hx k0 ck0
   omega
  ·rw [List.mem_singleton.1 hx] at k0 ck0 ⊢
   have:=hv k0 ck0
   omega
 ·show (l ++ [m]).Pairwise _
  rw [List.pairwise_append]
  refine ⟨h9,List.pairwise_singleton _ _,fun a ha b hb k0 ck0 k1 ck1=>?_⟩
  rw [List.mem_singleton.1 hb] at k1 ck1 ⊢
  have e1:=h8 a ha k0 ck0
  have e2:=hv k1 ck1
  omega
theorem TopOk.next {T mode most : Int} {st : Int × Int × List CM} {n : Nat} (h : TopOk T st n) (hT : 0 < T) (hT2 : T ≤ 64) (hn : n < 1000000) (v : LM) : TopOk T (topOne T mode most st v) (n + 1):=by
 obtain ⟨c,p,l⟩:=st
 have hsame : TopOk T (c,p,l) (n + 1):=⟨h.c0,by have:=h.c1; simp only at this ⊢; omega,h.p0,by have:=h.p1; simp only at this ⊢; omega,by have:=h.len; simp only at this ⊢; omega,h.right,h.who,h.has,h.own⟩
 have p0 : 0 ≤ p:=h.p0
 have p1 : p ≤ n:=h.p1
 have hw : ∀ {x : Int},0 ≤ x → x < 64 → 0 ≤ x % T ∧ x % T < T:=fun {x} _ _=>⟨Int.emod_nonneg _ (by omega),Int.emod_lt_of_pos _ hT⟩
 unfold topOne
 simp only
 by_cases hk : v.base.k = 0
 ·rw [if_pos hk]
  obtain ⟨b1,b2,b3,b4,b5⟩:=LM.base_beg hk
  obtain ⟨w1,w2⟩:=hw b1 b2
  have he:=zFq mode b4
  split
  ·exact hsame
  ·split
   ·rename_i hck
    refine h.more (by omega) (by omega) ⟨.inl ⟨hk,w1,by show v.base.who % T < 64; omega,b3,he,.inl ⟨hck, ?_⟩⟩,by show 0 ≤ 100 + (p + 1); omega,by show 100 + (p + 1) ≤ 18446744073709551615; omega⟩ (fun _=>w2) (fun _ _=>⟨rfl,rfl⟩)
    show v.base.st = 0
    omega
   ·rename_i hck
    have b6 : v.base.ck = 1 ∧ v.base.v = 0 ∧ 0 ≤ v.base.st ∧ v.base.st ≤ 255:=by omega
    exact h.more (by omega) (by omega) ⟨.inl ⟨hk,w1,by show v.base.who % T < 64; omega,b3,he,.inr b6⟩,by show 0 ≤ v.base.v; omega,by show v.base.v ≤ 18446744073709551615; omega⟩ (fun _=>w2) (fun _ hc=>absurd hc hck)
 ·rw [if_neg hk]
  rcases LM.base_rest hk with ⟨h1,h2⟩ | ⟨h1,h2⟩
  ·rw [if_neg (by omega)]
   have w0 : 0 ≤ v.base.who ∧ v.base.who < 64:=by rw [h2]; show 0 ≤ v.who % 64 ∧ v.who % 64 < 64; omega
   obtain ⟨w1,w2⟩:=hw w0.1 w0.2
   refine h.more (by omega) (by omega) ⟨.inr (.inl ⟨h1,w1,by show v.base.who % T < 64; omega, ?_⟩), ?_⟩ (fun _=>w2) (fun h0=>absurd h0 hk)
   ·rw [h2]
    exact ⟨rfl,rfl,rfl,rfl,rfl⟩
   ·rw [h2]
    exact ⟨Int.le_refl _,by show (0 : Int) ≤ 18446744073709551615; decide⟩
  ·rw [if_pos h1]
   refine h.more (by omega) (by omega) ?_ (fun h3=>absurd h1 h3) (fun h0=>absurd h0 hk)
   rw [h2]
   exact ⟨.inr (.inr ⟨rfl,rfl,rfl,rfl,rfl,rfl,by show 1 ≤ 1 + v.n % 32768; omega,by show 1 + v.n % 32768 ≤ 65535; omega⟩),Int.le_refl _,by show (0 : Int) ≤ 18446744073709551615; decide⟩
theorem TopOk.fold {T mode most : Int} (hT : 0 < T) (hT2 : T ≤ 64) : ∀ (V : List LM) (st : Int × Int × List CM) (n : Nat),TopOk T st n → n + V.length < 1000000 → TopOk T (V.foldl (topOne T mode most) st) (n + V.length)
 | [],st,n,h,_=>h
 | v :: V,st,n,h,hl=>by
  rw [List.length_cons] at hl ⊢
  have h1:=TopOk.fold (mode:=mode) (most:=most) hT hT2 V (topOne T mode most st v) (n + 1) (h.next hT hT2 (by omega) v) (by omega)
  rw [show n + 1 + V.length = n + (V.length + 1) by omega] at h1
  exact h1
theorem TopOk.of {T : Int} (mode most : Int) (hT : 0 < T) (hT2 : T ≤ 64) (V : List LM) (hl : V.length < 1000000) : TopOk T (topS T mode most V) V.length:=by
 have h:=TopOk.fold (mode:=mode) (most:=most) hT hT2 V (0,0,[]) 0 (TopOk.start T) (by omega)
 rw [Nat.zero_add] at h
 exact h
end
section
open Go.RowKit
theorem zAh : ElemAt Tryz.prog 63 5 (.int .u8 0) 1 1:=ElemAt.mk' Tryz.underlying63 (by kernel_rfl) rfl (by decide)
abbrev u8 (b : Int) : Value:=.int .u8 b
abbrev Own8 (w : World) (base : Nat) (v : Value) (L : List Int) : Prop:=w.ownsRow base 5 1 v L.length (L.map u8)
structure Wrote (base : Nat) (w w' : World) (v v' : Value) (L' : List Int) : Prop where
 own : Own8 w' base v' L'
 keep : Keep (fun k=>v.ownBlock = some k) w w'
 moved : Moved w v v'
section
variable {base : Nat} {w w1 w' : World} {v v1 v' : Value} {L L1 L' : List Int}
theorem Wrote.refl (h : Own8 w base v L) : Wrote base w w v v L:=⟨h,Keep.refl _ _,zBV _ _⟩
theorem Wrote.trans (h : Wrote base w w1 v v1 L1) (k : Wrote base w1 w' v1 v' L') : Wrote base w w' v v' L' :=
 ⟨k.own,h.keep.then' k.keep (fun i hi=>h.moved i hi),h.moved.trans k.moved h.keep.size⟩
theorem Wrote.of_grew {n : Nat} {xs : List Value} (h : Grew w w' base 5 1 v v' n xs) (hn : n = L'.length) (hx : xs = L'.map u8) : Wrote base w w' v v' L':=by
 subst hn hx
 exact ⟨h.own,Keep.of_grown h.grown (fun k hk=>hk),h.moved⟩
theorem Wrote.ahead (hb : Below w.heap.size w w1) (h : Wrote base w1 w' v v' L') : Wrote base w w' v v' L' :=
 ⟨h.own,(Keep.of_below hb).trans h.keep,fun k hk=>(h.moved k hk).imp id (fun hl=>Nat.le_trans hb.size hl)⟩
theorem Own8.later (h : Own8 w base v L) (hb : Below w.heap.size w w') : Own8 w' base v L:=(Keep.of_below (T:=fun _=>False) hb).row h (fun _ _ h=>h)
theorem Wrote.obj {b : Nat} {xs : List Value} (h : Wrote base w w' v v' L') (ho : IsObj w b xs) (hn : v.ownBlock ≠ some b) : IsObj w' b xs:=ho.keep h.keep hn
end
theorem zHz (x : Int) (i : Nat) : x / 2 ^ (8 * i) % 256 = x / 256 ^ i % 256:=by
 have e : (2 : Int) ^ (8 * i) = 256 ^ i:=by rw [Int.pow_mul]; rfl
 rw [e]
theorem zB8 (base : Nat) (v : Value) (L : List Int) (x : Int) (n : Nat) (w : World) (h : Own8 w base v L) (hn : n ≤ 8) (x0 : 0 ≤ x) (x1 : x ≤ 18446744073709551615) (hL : L.length ≤ 1000000) (hb : base ≤ w.heap.size) :
  Calls Tryz.prog 44 #[v,u64 x,i64 n] w fun r w' => ∃ v',r = .returned v' ∧ Wrote base w w' v v' (L ++ le8 n x):=by
 have HW0 : Hid (Wrote base w w v v (L ++ le8 0 x)):=zIo (by rw [show le8 0 x = [] from rfl,List.append_nil]; exact Wrote.refl h)
 obtain ⟨A,cp,hv⟩:=zAK h
 have hl0 : (L ++ le8 0 x).length = L.length:=by rw [show le8 0 x = [] from rfl,List.append_nil]
 have HV:=zIo hv
 clear h hv
 go_enter Tryz.func44,Tryz.ntmps44
 go_wp2_with fail
 go_loopw [0,9] (fun bv iv wr => ∃ (i : Nat) (A1 : Option Addr) (cp1 : Nat),i ≤ n ∧ bv = .slice A1 (L.length + i) cp1 ∧ iv = .int .i64 i ∧ Hid (Wrote base w wr v (.slice A1 (L.length + i) cp1) (L ++ le8 i x))) (fun _ iv _=>n - (RowKit.intOf iv).toNat)
 case atStart=>exact ⟨0,A,cp,Nat.zero_le _,HV.out,rfl,zIo (by have h1:=HW0.out; rw [HV.out] at h1 ⊢; exact h1)⟩
 case round =>
  clear HW0 HV hl0
  obtain ⟨i,A1,cp1,hi,rfl,rfl,HW⟩:=hrel
  rcases Nat.lt_or_ge i n with hin | hin
  ·have hin' : (i : Int) < (n : Int):=by omega
   have hle : (L ++ le8 i x).length = L.length + i:=by rw [List.length_append,zAo]
   have HO:=zIo (show wr.ownsRow base 5 1 (.slice A1 (L.length + i) cp1) (L.length + i) ((L ++ le8 i x).map u8) by have h1:=HW.out.own; rw [Own8,hle] at h1; exact h1)
   have Hs:=zIo (Nat.le_trans hb HW.out.keep.size)
   clear hle
   go_wp2_with (at_builtin; refine zAI rfl _ _ 63 rfl base 5 _ 1 1 zAh (.slice A1 (L.length + i) cp1) (L.length + i) ((L ++ le8 i x).map u8) rfl ((Keep.of_below (T:=fun _=>False) (zAA (Below.refl _ _) _)).row HO.out (fun _ _ h=>h)) (some ⟨_,0,none⟩) 1 1 [u8 _] rfl (zBC wr [u8 _] 5 1 1 rfl (zDM _ _)) (by unfold maxLen; omega) (by omega) (by have:=Hs.out; simp; omega) ?_; intro v' w4 hG; have HG:=zIo hG; clear hG)
   have hG:=HG.out
   have hW4 : Wrote base wr w4 (.slice A1 (L.length + i) cp1) v' (L ++ le8 (i + 1) x):=Wrote.ahead (zAA (Below.refl _ _) _) (Wrote.of_grew hG (by rw [List.length_append,zAo]; rfl) (by simp only [zEg, ← List.append_assoc,List.map_append,zHz,List.map_cons,List.map_nil]))
   obtain ⟨A2,cp2,rfl⟩:=zAK hG.own
   have HW4:=zIo (HW.out.trans hW4)
   clear hG hW4 HG
   go_roundw
   case rel=>exact ⟨i + 1,A2,cp2,by omega,rfl,by go_num,HW4⟩
   case measure=>first | omega | (simp [RowKit.intOf]; done) | (simp [RowKit.intOf]; omega)
  ·obtain rfl : i = n:=by omega
   have hnn : ¬ (i : Int) < (i : Int):=by omega
   go_wp2_with fail
   go_ret
   exact ⟨_,rfl,HW.out⟩
theorem Wrote.app {base : Nat} {w w1 w2 : World} {v v1 v2 : Value} {L1 L2 B : List Int} {n : Nat} {o : Obj} {xs : List Value} (h : Wrote base w w1 v v1 L1) (g : Grew (w1.alloc o) w2 base 5 1 v1 v2 n xs) (hn : n = L1.length + B.length) (hx : xs = L1.map u8 ++ B.map u8) (hL : L2 = L1 ++ B) : Wrote base w w2 v v2 L2:=by
 subst hL
 exact h.trans (Wrote.ahead (zAA (Below.refl _ _) _) (Wrote.of_grew g (by rw [hn,List.length_append]) (by rw [hx,List.map_append])))
theorem Wrote.at' {base : Nat} {w w1 : World} {v v1 : Value} {L1 : List Int} {n : Nat} (h : Wrote base w w1 v v1 L1) (hn : L1.length = n) : w1.ownsRow base 5 1 v1 n (L1.map u8):=hn ▸ h.own
theorem zAY {w : World} {base n : Nat} {v : Value} {xs : List Value} (h : w.ownsRow base 5 1 v n xs) (o : Obj) : (w.alloc o).ownsRow base 5 1 v n xs:=(Keep.of_below (T:=fun _=>False) (zAA (Below.refl _ _) _)).row h (fun _ _ h=>h)
theorem zAl (w : World) (b : Nat) (cs : List Value) (m : Nat) (hb : b = w.heap.size) (hl : cs.length = m) (h1 : ∀ u ∈ cs,u.oneCell' = true) : Src (w.alloc (.cells cs.toArray 5)) 1 (some ⟨b,0,none⟩) m cs:=by
 subst hb
 exact zBC w cs _ 1 m (by omega) h1
theorem zA9 (L : List Int) : ∀ u ∈ L.map u8,u.oneCell' = true:=fun u hu=>by
 obtain ⟨x,_,rfl⟩:=List.mem_map.1 hu
 rfl
theorem zF6 (base : Nat) (v : Value) (L : List Int) (m : CM) (w : World) (h : Own8 w base v L) (hm : m.Good) (hL : L.length ≤ 900000) (hb : base ≤ w.heap.size) :
  Calls Tryz.prog 31 #[m.val,v] w fun r w' => ∃ v',r = .returned v' ∧ Wrote base w w' v v' (L ++ m.enc):=by
 obtain ⟨k,who,ck,ce,x,s,n⟩:=m
 obtain ⟨hr,hx0,hx1⟩:=hm
 replace hx0 : 0 ≤ x:=hx0
 replace hx1 : x ≤ 18446744073709551615:=hx1
 obtain ⟨A,cp,rfl⟩:=zAK h
 have HB:=zIo (zAA (Below.refl w.heap.size w) ((⟨k,who,ck,ce,x,s,n⟩ : CM).obj 50))
 have HM:=zIo (IsObj.made w (⟨k,who,ck,ce,x,s,n⟩ : CM).list 50)
 have HW0:=zIo (Wrote.refl (h.later HB.out))
 have hne : (Value.slice A L.length cp).ownBlock ≠ some w.heap.size:=fun e=>by have:=(h.lt _ e).2; omega
 have HNE:=zIo hne
 have HS0:=zIo (Nat.le_trans hb HB.out.size)
 have HO0:=zIo (HW0.out.at' rfl)
 clear h hne
 rcases hr with hr | hr | hr
 ·obtain ⟨h0,h1,h2,h3,h4,h5⟩:=hr
  replace h0 : k = 0:=h0
  replace h1 : 0 ≤ who:=h1
  replace h2 : who < 64:=h2
  replace h4 : ce = 0 ∨ ce = 1:=h4
  replace h5 : (ck = 0 ∧ s = 0) ∨ (ck = 1 ∧ x = 0 ∧ 0 ≤ s ∧ s ≤ 255):=h5
  subst h0
  have HM0:=HM
  have HNE0:=HNE
  rcases h5 with ⟨rfl,rfl⟩ | ⟨rfl,rfl,s0,s1⟩
  ·rcases h4 with rfl | rfl
   ·skip
    go_enter Tryz.func31,Tryz.ntmps31
    go_upto_if 13 with (at_builtin; go_loud (refine zAI rfl _ _ 63 rfl base 5 _ 1 1 zAh (.slice A (L.length) cp) (L.length) ((L).map u8) rfl (zAY HO0.out _) (some ⟨_,0,none⟩) 1 1 [u8 0] rfl (zAl _ _ [u8 0] 1 (by simp) rfl (zA9 [0])) (by unfold maxLen; omega) (by omega) (by have:=HS0.out; first | omega | (simp; omega) | (simp at this ⊢; omega)) ?_); intro v' w4 hG; go_loud (obtain ⟨A1,cp1,rfl⟩:=zAK hG.own; have hW1:=HW0.out.app (B:=[0]) hG rfl rfl rfl; have HM1:=zIo (hW1.obj HM.out HNE.out); have HNE1:=zIo (show (Value.slice A1 (L.length + 1) cp1).ownBlock ≠ some w.heap.size from fun e=>(hW1.moved _ e).elim HNE.out (fun q=>by simp at q; omega)); have HO1:=zIo (hW1.at' (n:=L.length + 1) (by simp)); have HW1:=zIo hW1; have HS1:=zIo (Nat.le_trans HS0.out hW1.keep.size); clear hG hW1 HM HO0 HW0 HNE HS0; have HS0:=HS1; have c0:=HM1.out.at' 0 _ rfl; have c1:=HM1.out.at' 1 _ rfl; have c2:=HM1.out.at' 2 _ rfl; have c3:=HM1.out.at' 3 _ rfl; have c4:=HM1.out.at' 4 _ rfl; have c5:=HM1.out.at' 5 _ rfl; have c6:=HM1.out.at' 6 _ rfl))
    go_upto_if 34 with (at_builtin; go_loud (refine zAI rfl _ _ 63 rfl base 5 _ 1 1 zAh (.slice A1 (L.length + 1) cp1) (L.length + 1) ((L ++ [0]).map u8) rfl (zAY HO1.out _) (some ⟨_,0,none⟩) 2 2 [u8 _,u8 0] rfl (zAl _ _ [u8 _,u8 0] 2 (by simp) rfl (zA9 [_,0])) (by unfold maxLen; omega) (by omega) (by have:=HS0.out; first | omega | (simp; omega) | (simp at this ⊢; omega)) ?_); intro v' w4 hG; go_loud (obtain ⟨A2,cp2,rfl⟩:=zAK hG.own; have hW2:=HW1.out.app (B:=[who,0]) hG (by simp) (by first | rfl | (simp; done) | (simp; omega)) rfl; have HM2:=zIo (hW2.obj HM0.out HNE0.out); have HO2:=zIo (hW2.at' (n:=L.length + 1 + 2) (by simp)); have HW2:=zIo hW2; have HS2:=zIo (Nat.le_trans (Nat.le_trans hb HB.out.size) hW2.keep.size); clear hG hW2 HM1 HO1 HW1 HNE1 HS0 HS1 c0 c1 c2 c3 c4 c5 c6; have HS0:=HS2; have c0:=HM2.out.at' 0 _ rfl; have c1:=HM2.out.at' 1 _ rfl; have c2:=HM2.out.at' 2 _ rfl; have c3:=HM2.out.at' 3 _ rfl; have c4:=HM2.out.at' 4 _ rfl; have c5:=HM2.out.at' 5 _ rfl; have c6:=HM2.out.at' 6 _ rfl))
    go_wp2_with fail
    refine (zB8 base _ (L ++ [0] ++ [who,0]) x 8 _ HW2.out.own (by decide) (by omega) (by omega) (by simp; omega) HS2.out).mono ?_
    rintro r w5 ⟨v5,rfl,hw⟩
    have HW5:=zIo (HW2.out.trans hw)
    clear hw
    go_wp2_with fail
    go_ret
    exact ⟨_,rfl,Wrote.ahead HB.out (by have h:=HW5.out; rw [List.append_assoc,List.append_assoc] at h; exact h)⟩
   ·skip
    go_enter Tryz.func31,Tryz.ntmps31
    go_upto_if 13 with (at_builtin; go_loud (refine zAI rfl _ _ 63 rfl base 5 _ 1 1 zAh (.slice A (L.length) cp) (L.length) ((L).map u8) rfl (zAY HO0.out _) (some ⟨_,0,none⟩) 1 1 [u8 0] rfl (zAl _ _ [u8 0] 1 (by simp) rfl (zA9 [0])) (by unfold maxLen; omega) (by omega) (by have:=HS0.out; first | omega | (simp; omega) | (simp at this ⊢; omega)) ?_); intro v' w4 hG; go_loud (obtain ⟨A1,cp1,rfl⟩:=zAK hG.own; have hW1:=HW0.out.app (B:=[0]) hG rfl rfl rfl; have HM1:=zIo (hW1.obj HM.out HNE.out); have HNE1:=zIo (show (Value.slice A1 (L.length + 1) cp1).ownBlock ≠ some w.heap.size from fun e=>(hW1.moved _ e).elim HNE.out (fun q=>by simp at q; omega)); have HO1:=zIo (hW1.at' (n:=L.length + 1) (by simp)); have HW1:=zIo hW1; have HS1:=zIo (Nat.le_trans HS0.out hW1.keep.size); clear hG hW1 HM HO0 HW0 HNE HS0; have HS0:=HS1; have c0:=HM1.out.at' 0 _ rfl; have c1:=HM1.out.at' 1 _ rfl; have c2:=HM1.out.at' 2 _ rfl; have c3:=HM1.out.at' 3 _ rfl; have c4:=HM1.out.at' 4 _ rfl; have c5:=HM1.out.at' 5 _ rfl; have c6:=HM1.out.at' 6 _ rfl))
    go_upto_if 34 with (at_builtin; go_loud (refine zAI rfl _ _ 63 rfl base 5 _ 1 1 zAh (.slice A1 (L.length + 1) cp1) (L.length + 1) ((L ++ [0]).map u8) rfl (zAY HO1.out _) (some ⟨_,0,none⟩) 2 2 [u8 _,u8 2] rfl (zAl _ _ [u8 _,u8 2] 2 (by simp) rfl (zA9 [_,2])) (by unfold maxLen; omega) (by omega) (by have:=HS0.out; first | omega | (simp; omega) | (simp at this ⊢; omega)) ?_); intro v' w4 hG; go_loud (obtain ⟨A2,cp2,rfl⟩:=zAK hG.own; have hW2:=HW1.out.app (B:=[who,2]) hG (by simp) (by first | rfl | (simp; done) | (simp; omega)) rfl; have HM2:=zIo (hW2.obj HM0.out HNE0.out); have HO2:=zIo (hW2.at' (n:=L.length + 1 + 2) (by simp)); have HW2:=zIo hW2; have HS2:=zIo (Nat.le_trans (Nat.le_trans hb HB.out.size) hW2.keep.size); clear hG hW2 HM1 HO1 HW1 HNE1 HS0 HS1 c0 c1 c2 c3 c4 c5 c6; have HS0:=HS2; have c0:=HM2.out.at' 0 _ rfl; have c1:=HM2.out.at' 1 _ rfl; have c2:=HM2.out.at' 2 _ rfl; have c3:=HM2.out.at' 3 _ rfl; have c4:=HM2.out.at' 4 _ rfl; have c5:=HM2.out.at' 5 _ rfl; have c6:=HM2.out.at' 6 _ rfl))
    go_wp2_with fail
    refine (zB8 base _ (L ++ [0] ++ [who,2]) x 8 _ HW2.out.own (by decide) (by omega) (by omega) (by simp; omega) HS2.out).mono ?_
    rintro r w5 ⟨v5,rfl,hw⟩
    have HW5:=zIo (HW2.out.trans hw)
    clear hw
    go_wp2_with fail
    go_ret
    exact ⟨_,rfl,Wrote.ahead HB.out (by have h:=HW5.out; rw [List.append_assoc,List.append_assoc] at h; exact h)⟩
  ·rcases h4 with rfl | rfl
   ·skip
    go_enter Tryz.func31,Tryz.ntmps31
    go_upto_if 13 with (at_builtin; go_loud (refine zAI rfl _ _ 63 rfl base 5 _ 1 1 zAh (.slice A (L.length) cp) (L.length) ((L).map u8) rfl (zAY HO0.out _) (some ⟨_,0,none⟩) 1 1 [u8 0] rfl (zAl _ _ [u8 0] 1 (by simp) rfl (zA9 [0])) (by unfold maxLen; omega) (by omega) (by have:=HS0.out; first | omega | (simp; omega) | (simp at this ⊢; omega)) ?_); intro v' w4 hG; go_loud (obtain ⟨A1,cp1,rfl⟩:=zAK hG.own; have hW1:=HW0.out.app (B:=[0]) hG rfl rfl rfl; have HM1:=zIo (hW1.obj HM.out HNE.out); have HNE1:=zIo (show (Value.slice A1 (L.length + 1) cp1).ownBlock ≠ some w.heap.size from fun e=>(hW1.moved _ e).elim HNE.out (fun q=>by simp at q; omega)); have HO1:=zIo (hW1.at' (n:=L.length + 1) (by simp)); have HW1:=zIo hW1; have HS1:=zIo (Nat.le_trans HS0.out hW1.keep.size); clear hG hW1 HM HO0 HW0 HNE HS0; have HS0:=HS1; have c0:=HM1.out.at' 0 _ rfl; have c1:=HM1.out.at' 1 _ rfl; have c2:=HM1.out.at' 2 _ rfl; have c3:=HM1.out.at' 3 _ rfl; have c4:=HM1.out.at' 4 _ rfl; have c5:=HM1.out.at' 5 _ rfl; have c6:=HM1.out.at' 6 _ rfl))
    go_upto_if 34 with (at_builtin; go_loud (refine zAI rfl _ _ 63 rfl base 5 _ 1 1 zAh (.slice A1 (L.length + 1) cp1) (L.length + 1) ((L ++ [0]).map u8) rfl (zAY HO1.out _) (some ⟨_,0,none⟩) 2 2 [u8 _,u8 1] rfl (zAl _ _ [u8 _,u8 1] 2 (by simp) rfl (zA9 [_,1])) (by unfold maxLen; omega) (by omega) (by have:=HS0.out; first | omega | (simp; omega) | (simp at this ⊢; omega)) ?_); intro v' w4 hG; go_loud (obtain ⟨A2,cp2,rfl⟩:=zAK hG.own; have hW2:=HW1.out.app (B:=[who,1]) hG (by simp) (by first | rfl | (simp; done) | (simp; omega)) rfl; have HM2:=zIo (hW2.obj HM0.out HNE0.out); have HO2:=zIo (hW2.at' (n:=L.length + 1 + 2) (by simp)); have HW2:=zIo hW2; have HS2:=zIo (Nat.le_trans (Nat.le_trans hb HB.out.size) hW2.keep.size); clear hG hW2 HM1 HO1 HW1 HNE1 HS0 HS1 c0 c1 c2 c3 c4 c5 c6; have HS0:=HS2; have c0:=HM2.out.at' 0 _ rfl; have c1:=HM2.out.at' 1 _ rfl; have c2:=HM2.out.at' 2 _ rfl; have c3:=HM2.out.at' 3 _ rfl; have c4:=HM2.out.at' 4 _ rfl; have c5:=HM2.out.at' 5 _ rfl; have c6:=HM2.out.at' 6 _ rfl))
    go_wp2_with (at_builtin; go_loud (refine zAI rfl _ _ 63 rfl base 5 _ 1 1 zAh (.slice A2 (L.length + 1 + 2) cp2) (L.length + 1 + 2) ((L ++ [0] ++ [who,1]).map u8) rfl (zAY HO2.out _) (some ⟨_,0,none⟩) 1 1 [u8 _] rfl (zAl _ _ [u8 _] 1 (by simp) rfl (zA9 [_])) (by unfold maxLen; omega) (by omega) (by have:=HS0.out; first | omega | (simp; omega) | (simp at this ⊢; omega)) ?_); intro v' w4 hG; go_loud (have HW3:=zIo (HW2.out.app (B:=[s]) hG (by simp) (by first | rfl | (simp; done) | (simp; omega)) rfl); clear hG HW2))
    go_ret
    exact ⟨_,rfl,Wrote.ahead HB.out (by have h:=HW3.out; rw [List.append_assoc,List.append_assoc] at h; exact h)⟩
   ·skip
    go_enter Tryz.func31,Tryz.ntmps31
    go_upto_if 13 with (at_builtin; go_loud (refine zAI rfl _ _ 63 rfl base 5 _ 1 1 zAh (.slice A (L.length) cp) (L.length) ((L).map u8) rfl (zAY HO0.out _) (some ⟨_,0,none⟩) 1 1 [u8 0] rfl (zAl _ _ [u8 0] 1 (by simp) rfl (zA9 [0])) (by unfold maxLen; omega) (by omega) (by have:=HS0.out; first | omega | (simp; omega) | (simp at this ⊢; omega)) ?_); intro v' w4 hG; go_loud (obtain ⟨A1,cp1,rfl⟩:=zAK hG.own; have hW1:=HW0.out.app (B:=[0]) hG rfl rfl rfl; have HM1:=zIo (hW1.obj HM.out HNE.out); have HNE1:=zIo (show (Value.slice A1 (L.length + 1) cp1).ownBlock ≠ some w.heap.size from fun e=>(hW1.moved _ e).elim HNE.out (fun q=>by simp at q; omega)); have HO1:=zIo (hW1.at' (n:=L.length + 1) (by simp)); have HW1:=zIo hW1; have HS1:=zIo (Nat.le_trans HS0.out hW1.keep.size); clear hG hW1 HM HO0 HW0 HNE HS0; have HS0:=HS1; have c0:=HM1.out.at' 0 _ rfl; have c1:=HM1.out.at' 1 _ rfl; have c2:=HM1.out.at' 2 _ rfl; have c3:=HM1.out.at' 3 _ rfl; have c4:=HM1.out.at' 4 _ rfl; have c5:=HM1.out.at' 5 _ rfl; have c6:=HM1.out.at' 6 _ rfl))
    go_upto_if 34 with (at_builtin; go_loud (refine zAI rfl _ _ 63 rfl base 5 _ 1 1 zAh (.slice A1 (L.length + 1) cp1) (L.length + 1) ((L ++ [0]).map u8) rfl (zAY HO1.out _) (some ⟨_,0,none⟩) 2 2 [u8 _,u8 3] rfl (zAl _ _ [u8 _,u8 3] 2 (by simp) rfl (zA9 [_,3])) (by unfold maxLen; omega) (by omega) (by have:=HS0.out; first | omega | (simp; omega) | (simp at this ⊢; omega)) ?_); intro v' w4 hG; go_loud (obtain ⟨A2,cp2,rfl⟩:=zAK hG.own; have hW2:=HW1.out.app (B:=[who,3]) hG (by simp) (by first | rfl | (simp; done) | (simp; omega)) rfl; have HM2:=zIo (hW2.obj HM0.out HNE0.out); have HO2:=zIo (hW2.at' (n:=L.length + 1 + 2) (by simp)); have HW2:=zIo hW2; have HS2:=zIo (Nat.le_trans (Nat.le_trans hb HB.out.size) hW2.keep.size); clear hG hW2 HM1 HO1 HW1 HNE1 HS0 HS1 c0 c1 c2 c3 c4 c5 c6; have HS0:=HS2; have c0:=HM2.out.at' 0 _ rfl; have c1:=HM2.out.at' 1 _ rfl; have c2:=HM2.out.at' 2 _ rfl; have c3:=HM2.out.at' 3 _ rfl; have c4:=HM2.out.at' 4 _ rfl; have c5:=HM2.out.at' 5 _ rfl; have c6:=HM2.out.at' 6 _ rfl))
    go_wp2_with (at_builtin; go_loud (refine zAI rfl _ _ 63 rfl base 5 _ 1 1 zAh (.slice A2 (L.length + 1 + 2) cp2) (L.length + 1 + 2) ((L ++ [0] ++ [who,3]).map u8) rfl (zAY HO2.out _) (some ⟨_,0,none⟩) 1 1 [u8 _] rfl (zAl _ _ [u8 _] 1 (by simp) rfl (zA9 [_])) (by unfold maxLen; omega) (by omega) (by have:=HS0.out; first | omega | (simp; omega) | (simp at this ⊢; omega)) ?_); intro v' w4 hG; go_loud (have HW3:=zIo (HW2.out.app (B:=[s]) hG (by simp) (by first | rfl | (simp; done) | (simp; omega)) rfl); clear hG HW2))
    go_ret
    exact ⟨_,rfl,Wrote.ahead HB.out (by have h:=HW3.out; rw [List.append_assoc,List.append_assoc] at h; exact h)⟩
 ·obtain ⟨h0,h1,h2,h3,h4,h5,h6,h7⟩:=hr
  replace h0 : k = 1:=h0
  replace h1 : 0 ≤ who:=h1
  replace h2 : who < 64:=h2
  subst h0
  go_enter Tryz.func31,Tryz.ntmps31
  go_upto_if 13 with (at_builtin; go_loud (refine zAI rfl _ _ 63 rfl base 5 _ 1 1 zAh (.slice A (L.length) cp) (L.length) ((L).map u8) rfl (zAY HO0.out _) (some ⟨_,0,none⟩) 1 1 [u8 1] rfl (zAl _ _ [u8 1] 1 (by simp) rfl (zA9 [1])) (by unfold maxLen; omega) (by omega) (by have:=HS0.out; first | omega | (simp; omega) | (simp at this ⊢; omega)) ?_); intro v' w4 hG; go_loud (obtain ⟨A1,cp1,rfl⟩:=zAK hG.own; have hW1:=HW0.out.app (B:=[1]) hG rfl rfl rfl; have HM1:=zIo (hW1.obj HM.out HNE.out); have HNE1:=zIo (show (Value.slice A1 (L.length + 1) cp1).ownBlock ≠ some w.heap.size from fun e=>(hW1.moved _ e).elim HNE.out (fun q=>by simp at q; omega)); have HO1:=zIo (hW1.at' (n:=L.length + 1) (by simp)); have HW1:=zIo hW1; have HS1:=zIo (Nat.le_trans HS0.out hW1.keep.size); clear hG hW1 HM HO0 HW0 HNE HS0; have HS0:=HS1; have c0:=HM1.out.at' 0 _ rfl; have c1:=HM1.out.at' 1 _ rfl; have c2:=HM1.out.at' 2 _ rfl; have c3:=HM1.out.at' 3 _ rfl; have c4:=HM1.out.at' 4 _ rfl; have c5:=HM1.out.at' 5 _ rfl; have c6:=HM1.out.at' 6 _ rfl))
  go_wp2_with (at_builtin; go_loud (refine zAI rfl _ _ 63 rfl base 5 _ 1 1 zAh (.slice A1 (L.length + 1) cp1) (L.length + 1) ((L ++ [1]).map u8) rfl (zAY HO1.out _) (some ⟨_,0,none⟩) 1 1 [u8 _] rfl (zAl _ _ [u8 _] 1 (by simp) rfl (zA9 [_])) (by unfold maxLen; omega) (by omega) (by have:=HS0.out; first | omega | (simp; omega) | (simp at this ⊢; omega)) ?_); intro v' w4 hG; go_loud (have hW2:=zIo (HW1.out.app (B:=[who]) hG (by simp) (by first | rfl | (simp; done) | (simp; omega)) rfl); clear hG HW1))
  go_ret
  exact ⟨_,rfl,Wrote.ahead HB.out (by have h:=hW2.out; rw [List.append_assoc] at h; exact h)⟩
 ·obtain ⟨h0,h1,h2,h3,h4,h5,h6,h7⟩:=hr
  replace h0 : k = 2:=h0
  replace h6 : 1 ≤ n:=h6
  replace h7 : n ≤ 65535:=h7
  subst h0
  have hn64 : IntKind.u64.wrap n = n:=by rw [IntKind.wrap_u64]; omega
  go_enter Tryz.func31,Tryz.ntmps31
  go_upto_if 13 with (at_builtin; go_loud (refine zAI rfl _ _ 63 rfl base 5 _ 1 1 zAh (.slice A (L.length) cp) (L.length) ((L).map u8) rfl (zAY HO0.out _) (some ⟨_,0,none⟩) 1 1 [u8 2] rfl (zAl _ _ [u8 2] 1 (by simp) rfl (zA9 [2])) (by unfold maxLen; omega) (by omega) (by have:=HS0.out; first | omega | (simp; omega) | (simp at this ⊢; omega)) ?_); intro v' w4 hG; go_loud (obtain ⟨A1,cp1,rfl⟩:=zAK hG.own; have hW1:=HW0.out.app (B:=[2]) hG rfl rfl rfl; have HM1:=zIo (hW1.obj HM.out HNE.out); have HNE1:=zIo (show (Value.slice A1 (L.length + 1) cp1).ownBlock ≠ some w.heap.size from fun e=>(hW1.moved _ e).elim HNE.out (fun q=>by simp at q; omega)); have HO1:=zIo (hW1.at' (n:=L.length + 1) (by simp)); have HW1:=zIo hW1; have HS1:=zIo (Nat.le_trans HS0.out hW1.keep.size); clear hG hW1 HM HO0 HW0 HNE HS0; have HS0:=HS1; have c0:=HM1.out.at' 0 _ rfl; have c1:=HM1.out.at' 1 _ rfl; have c2:=HM1.out.at' 2 _ rfl; have c3:=HM1.out.at' 3 _ rfl; have c4:=HM1.out.at' 4 _ rfl; have c5:=HM1.out.at' 5 _ rfl; have c6:=HM1.out.at' 6 _ rfl))
  go_wp2_with fail
  refine (zB8 base _ (L ++ [2]) n 2 _ HW1.out.own (by decide) (by omega) (by omega) (by simp; omega) HS1.out).mono ?_
  rintro r w5 ⟨v5,rfl,hw⟩
  have HW5:=zIo (HW1.out.trans hw)
  clear hw
  go_wp2_with fail
  go_ret
  exact ⟨_,rfl,Wrote.ahead HB.out (by have h:=HW5.out; rw [List.append_assoc] at h; exact h)⟩
end
section
open Go.RowKit
def IsAt (w : World) (A : Option Addr) (xs : List Value) : Prop :=
 0 < xs.length → ∃ b off,A = some ⟨b,off,none⟩ ∧ b < w.heap.size ∧ ∀ j u,xs[j]? = some u → w.cell? ⟨b,off + j,none⟩ = some u
section
variable {w w' : World} {A : Option Addr} {xs ys : List Value}
theorem IsAt.later (h : IsAt w A xs) (e : Below w.heap.size w w') : IsAt w' A xs:=fun hp=>by
 obtain ⟨b,off,h1,h2,h3⟩:=h hp
 exact ⟨b,off,h1,Nat.lt_of_lt_of_le h2 e.size,fun j u hj=>(e.cell (p:=⟨b,off + j,none⟩) h2).trans (h3 j u hj)⟩
theorem IsAt.own {base : Nat} {e : TypeId} {sz n cap : Nat} (h : w.ownsRow base e sz (.slice A n cap) n xs) : IsAt w A xs:=fun hp=>by
 rcases h.2 with ⟨hv,h0⟩ | ⟨g,cap',cur,hv,hb,hh,hc,_⟩
 ·have:=h.1
  rw [h0,Nat.zero_mul] at this
  omega
 ·cases hv
  refine ⟨g,0,rfl,(h.lt g rfl).2,fun j u hj=>?_⟩
  rw [Nat.zero_add,h.cellAt j (by have:=(List.getElem?_eq_some_iff.1 hj).1; have:=h.1; omega)]
  exact hj
end
def flatM : List CM → List Value
 | []=>[]
 | m :: l=>m.list ++ flatM l
theorem zAR : ∀ a b : List CM,flatM (a ++ b) = flatM a ++ flatM b
 | [],_=>rfl
 | m :: a,b=>by simp [flatM,zAR a b]
theorem zCE : ∀ l : List CM,(flatM l).length = l.length * 7
 | []=>rfl
 | m :: l=>by simp only [flatM,List.length_append,List.length_cons,zCE l,CM.list,List.length_nil]; omega
theorem CM.one (m : CM) (u : Value) (h : u ∈ m.list) : u.oneCell' = true:=by
 simp only [CM.list,List.mem_cons,List.not_mem_nil,or_false] at h
 rcases h with rfl | rfl | rfl | rfl | rfl | rfl | rfl <;> rfl
theorem zEl : ∀ {l : List CM} {i j : Nat} {m : CM},l[i]? = some m → j < 7 → (flatM l)[i * 7 + j]? = m.list[j]?
 | [],i,j,m,h,hj=>by simp at h
 | e :: l,0,j,m,h,hj=>by
  cases h
  rw [flatM,Nat.zero_mul,Nat.zero_add,List.getElem?_append_left (by exact hj)]
 | e :: l,i + 1,j,m,h,hj=>by
  rw [List.getElem?_cons_succ] at h
  rw [flatM,List.getElem?_append_right (by show 7 ≤ _; omega),show (i + 1) * 7 + j - e.list.length = i * 7 + j by show (i + 1) * 7 + j - 7 = _; omega]
  exact zEl h hj
theorem zBB : ElemAt Tryz.prog 27 50 (.agg #[.int .i64 0,.int .i64 0,.int .i64 0,.int .i64 0,.int .u64 0,.int .i64 0,.int .i64 0]) 7 56 :=
 ElemAt.mk' Tryz.underlying27 (by kernel_rfl) rfl (by decide)
structure AtCM (w : World) (b o : Nat) (m : CM) : Prop where
 c0 : w.cell? ⟨b,o,none⟩ = some (i64 m.k)
 c1 : w.cell? ⟨b,o + 1,none⟩ = some (i64 m.who)
 c2 : w.cell? ⟨b,o + 2,none⟩ = some (i64 m.ck)
 c3 : w.cell? ⟨b,o + 3,none⟩ = some (i64 m.ce)
 c4 : w.cell? ⟨b,o + 4,none⟩ = some (u64 m.v)
 c5 : w.cell? ⟨b,o + 5,none⟩ = some (i64 m.st)
 c6 : w.cell? ⟨b,o + 6,none⟩ = some (i64 m.n)
theorem IsAt.move {w : World} {A : Option Addr} {ms : List CM} (h : IsAt w A (flatM ms)) {i : Nat} {m : CM} (hi : ms[i]? = some m) : ∃ b off,A = some ⟨b,off,none⟩ ∧ b < w.heap.size ∧ AtCM w b (off + i * 7) m:=by
 have hil:=(List.getElem?_eq_some_iff.1 hi).1
 obtain ⟨b,off,h1,h2,h3⟩:=h (by rw [zCE]; omega)
 have key : ∀ j u,j < 7 → m.list[j]? = some u → w.cell? ⟨b,off + i * 7 + j,none⟩ = some u:=fun j u hj hu=>by
  have:=h3 (i * 7 + j) u (by rw [zEl hi hj]; exact hu)
  rw [← Nat.add_assoc] at this
  exact this
 exact ⟨b,off,h1,h2,key 0 _ (by decide) rfl,key 1 _ (by decide) rfl,key 2 _ (by decide) rfl,key 3 _ (by decide) rfl,key 4 _ (by decide) rfl,key 5 _ (by decide) rfl,key 6 _ (by decide) rfl⟩
theorem zBO (t s so d : Int) (b : Bool) (hb : rightC t s so d = b) (w : World) :
  Calls Tryz.prog 30 #[cf t s so d] w fun r w'=>r = .returned (.bool b) ∧ Below w.heap.size w w':=hb ▸ zCv t s so d w
inductive EncIs (w' : World) (base : Nat) (t s so d : Int) (ms : List CM) : Value → Int → Prop
 | conf (h : rightC t s so d = false) : EncIs w' base t s so d ms (.slice none 0 0) 1
 | many (h : rightC t s so d = true) (hn : 65536 < ms.length) : EncIs w' base t s so d ms (.slice none 0 0) 7
 | arg (h : rightC t s so d = true) (hn : ms.length ≤ 65536) (hm : ∃ m ∈ ms,¬ m.Right) : EncIs w' base t s so d ms (.slice none 0 0) 1
 | ok (h : rightC t s so d = true) (hn : ms.length ≤ 65536) (hm : ∀ m ∈ ms,m.Right) (v : Value) (ho : Own8 w' base v ([t,s,so,d] ++ encs ms)) : EncIs w' base t s so d ms v 0
theorem zGq (w : World) (base : Nat) (L : List Int) (hb : base ≤ w.heap.size) (hL : L.length ≤ maxLen) : Own8 (w.alloc (.cells (L.map u8).toArray 5)) base (.slice (some ⟨w.heap.size,0,none⟩) L.length L.length) L :=
 ⟨by rw [List.length_map]; omega,.inr ⟨w.heap.size,L.length,(L.map u8).toArray,rfl,hb,heap_alloc_new w _,Nat.le_refl _,hL,by simp,by
  rw [Nat.mul_one]
  exact List.take_of_length_le (by simp)⟩⟩
theorem zEz (t s so d : Int) (A : Option Addr) (cap : Nat) (ms : List CM) (w : World) (h : IsAt w A (flatM ms)) (hf : ∀ m ∈ ms,m.Fit) (hn : ms.length ≤ 70000) :
  Calls Tryz.prog 13 #[.agg #[.int .i64 t,.int .i64 s,.int .i64 so,.int .i64 d,.slice A ms.length cap]] w fun r w' => ∃ v e,r = .returned (.tuple #[v,i64 e]) ∧ Below w.heap.size w w' ∧ EncIs w' w.heap.size t s so d ms v e:=by
 have HB0:=zIo (zAA (zAA (Below.refl w.heap.size w) (.cells #[.int .i64 t,.int .i64 s,.int .i64 so,.int .i64 d,.slice A ms.length cap] 29)) (.cells #[.int .i64 t,.int .i64 s,.int .i64 so,.int .i64 d] 26))
 have H:=zIo h
 have HF:=zIo hf
 clear h hf
 rcases Bool.eq_false_or_eq_true (rightC t s so d) with hr | hr
 case inr =>
  have HR:=zIo hr
  clear hr
  go_enter Tryz.func13,Tryz.ntmps13
  go_wp2_with fail
  refine (zBO t s so d false HR.out _).mono ?_
  rintro r w2 ⟨rfl,hb⟩
  have HB:=zIo (zAE HB0.out hb)
  clear HB0 hb
  go_wp2_with fail
  go_ret2
  exact ⟨_,_,rfl,HB.out,.conf HR.out⟩
 have HR:=zIo hr
 have HX:=zIo (of_decide_eq_true hr)
 clear hr
 have HAC:=zIo (IsObj.made (w.alloc (.cells #[.int .i64 t,.int .i64 s,.int .i64 so,.int .i64 d,.slice A ms.length cap] 29)) [.int .i64 t,.int .i64 s,.int .i64 so,.int .i64 d] 26)
 have HOB:=zIo ((IsObj.made w [.int .i64 t,.int .i64 s,.int .i64 so,.int .i64 d,.slice A ms.length cap] 29).later (zAA (Below.refl _ _) (.cells #[.int .i64 t,.int .i64 s,.int .i64 so,.int .i64 d] 26)))
 have hcb : (w.alloc (.cells #[.int .i64 t,.int .i64 s,.int .i64 so,.int .i64 d,.slice A ms.length cap] 29)).heap.size = w.heap.size + 1:=by simp
 rw [hcb] at HAC
 clear hcb
 rcases Nat.lt_or_ge 65536 ms.length with hbig | hsm
 ·have hbig' : (65536 : Int) < (ms.length : Int):=by omega
  go_enter Tryz.func13,Tryz.ntmps13
  go_wp2_with fail
  refine (zBO t s so d true HR.out _).mono ?_
  rintro r w2 ⟨rfl,hb⟩
  have HB:=zIo (zAE HB0.out hb)
  have HO:=zIo (HOB.out.later hb)
  clear HB0 hb HAC HOB
  have c4:=HO.out.at' 4 _ rfl
  go_wp2_with fail
  go_ret2
  exact ⟨_,_,rfl,HB.out,.many HR.out hbig⟩
 have hsm' : ¬ (65536 : Int) < (ms.length : Int):=by omega
 go_enter Tryz.func13,Tryz.ntmps13
 go_wp2_with fail
 refine (zBO t s so d true HR.out _).mono ?_
 rintro r w2 ⟨rfl,hb⟩
 have HB:=zIo (zAE HB0.out hb)
 have HO:=zIo (HOB.out.later hb)
 have HA:=zIo (HAC.out.later hb)
 clear HB0 hb HAC HOB
 have c4:=HO.out.at' 4 _ rfl
 have d0:=HA.out.at' 0 _ rfl
 have d1:=HA.out.at' 1 _ rfl
 have d2:=HA.out.at' 2 _ rfl
 have d3:=HA.out.at' 3 _ rfl
 have e4:=HO.out.lt
 have HX1:=HX.out
 have HR0:=zIo (zGq w2 w.heap.size [t,s,so,d] HB.out.size (by show 4 ≤ maxLen; unfold maxLen; decide))
 have hm1 : IntKind.u8.wrap t = t:=by rw [IntKind.wrap_u8]; omega
 have hm2 : IntKind.u8.wrap s = s:=by rw [IntKind.wrap_u8]; omega
 have hm3 : IntKind.u8.wrap so = so:=by rw [IntKind.wrap_u8]; omega
 have hm4 : IntKind.u8.wrap d = d:=by rw [IntKind.wrap_u8]; omega
 have HM:=zIo (show (w2.alloc (.cells #[.int .u8 (t % 256),.int .u8 (s % 256),.int .u8 (so % 256),.int .u8 (d % 256)] 5)) = w2.alloc (.cells ([t,s,so,d].map u8).toArray 5) by
  rw [show t % 256 = t by omega,show s % 256 = s by omega,show so % 256 = so by omega,show d % 256 = d by omega]; rfl)
 have HBn:=zIo (zAA HB.out (.cells ([t,s,so,d].map u8).toArray 5))
 clear hm1 hm2 hm3 hm4 HX1
 go_wp2_with fail
 rw [HM.out]
 generalize w2.alloc (.cells ([t,s,so,d].map u8).toArray 5) = w3 at HR0 HBn ⊢
 clear HM HB HO HA c4 d0 d1 d2 d3 e4
 go_loopw [5,33] (fun bv iv wr => ∃ (i : Nat) (A1 : Option Addr) (cp1 : Nat),i ≤ ms.length ∧ bv = .slice A1 (4 + (encs (ms.take i)).length) cp1 ∧ iv = .int .i64 i ∧ Hid (∀ m ∈ ms.take i,m.Right) ∧ Hid (Below w.heap.size w wr) ∧ Hid (wr.ownsRow w.heap.size 5 1 (.slice A1 (4 + (encs (ms.take i)).length) cp1) (4 + (encs (ms.take i)).length) (([t,s,so,d] ++ encs (ms.take i)).map u8))) (fun _ iv _=>ms.length - (RowKit.intOf iv).toNat)
 case atStart=>exact ⟨0,_,_,Nat.zero_le _,rfl,rfl,zIo (fun m hm=>by cases hm),HBn,HR0⟩
 case round =>
  clear HR0 HBn
  obtain ⟨i,A1,cp1,hi,rfl,rfl,HRI,HBI,HOI⟩:=hrel
  rcases Nat.lt_or_ge i ms.length with hin | hin
  ·have hin' : (i : Int) < (ms.length : Int):=by omega
   obtain ⟨m,hm⟩ : ∃ m,ms[i]? = some m:=⟨_,List.getElem?_eq_getElem hin⟩
   obtain ⟨b,off,rfl,hbl,hat⟩:=H.out.move hm
   have hfit:=HF.out m (List.mem_of_getElem? hm)
   have k : ∀ q,wr.cell? ⟨b,q,none⟩ = w.cell? ⟨b,q,none⟩:=fun q=>HBI.out.cell (p:=⟨b,q,none⟩) hbl
   have c0:=(k _).trans hat.c0
   have c1:=(k _).trans hat.c1
   have c2:=(k _).trans hat.c2
   have c3:=(k _).trans hat.c3
   have c4:=(k _).trans hat.c4
   have c5:=(k _).trans hat.c5
   have c6:=(k _).trans hat.c6
   have htk : ms.take (i + 1) = ms.take i ++ [m]:=by rw [List.take_add_one,hm]; rfl
   have HTK:=zIo htk
   have HFI:=zIo hfit
   have HMI:=zIo (List.mem_of_getElem? hm)
   have hle:=zDS (ms.take i)
   rw [List.length_take] at hle
   have HMB:=zIo (IsObj.made wr m.list 50)
   have hbn:=zAA (Below.refl wr.heap.size wr) (m.obj 50)
   have HBJ:=zIo (zAE HBI.out hbn)
   have HOJ:=zIo ((Keep.of_below (T:=fun _=>False) hbn).row HOI.out (fun _ _ h=>h))
   have hlt : wr.heap.size < (wr.alloc (m.obj 50)).heap.size:=by simp
   have HLT:=zIo hlt
   have HNB:=zIo (show ∀ q,(Value.slice A1 (4 + (encs (ms.take i)).length) cp1).ownBlock = some q → q ≠ wr.heap.size from fun q hq=>by have:=(HOI.out.lt q hq).2; omega)
   clear k hat hbn hlt hm htk hfit
   generalize hen : 4 + (encs (ms.take i)).length = q at *
   go_wp2_with fail
   refine (zAV m _).mono ?_
   rintro r w4 ⟨rfl,hb4⟩
   have HB4:=zIo (zAE HBJ.out hb4)
   have HM4:=zIo (HMB.out.later hb4)
   have HO4:=zIo ((Keep.of_below (T:=fun _=>False) hb4).row HOJ.out (fun _ _ h=>h))
   have HLT4:=zIo (Nat.lt_of_lt_of_le HLT.out hb4.size)
   clear hb4 HBJ HMB HOJ HLT c0 c1 c2 c3 c4 c5 c6
   by_cases hmr : m.Right
   case neg =>
    have HNR:=zIo hmr
    rw [decide_eq_false hmr]
    clear hmr
    go_wp2_with fail
    go_ret2
    exact ⟨_,_,rfl,HB4.out,.arg HR.out (by omega) ⟨m,HMI.out,HNR.out⟩⟩
   case pos =>
    have HGD:=zIo (show m.Good from ⟨hmr,HFI.out⟩)
    rw [decide_eq_true hmr]
    clear hmr
    have c0:=HM4.out.at' 0 _ rfl
    have c1:=HM4.out.at' 1 _ rfl
    have c2:=HM4.out.at' 2 _ rfl
    have c3:=HM4.out.at' 3 _ rfl
    have c4:=HM4.out.at' 4 _ rfl
    have c5:=HM4.out.at' 5 _ rfl
    have c6:=HM4.out.at' 6 _ rfl
    go_wp2_with fail
    have hwr:=zF6 w.heap.size (.slice A1 q cp1) ([t,s,so,d] ++ encs (ms.take i)) m w4 (by have h:=HO4.out; rw [Own8,show ([t,s,so,d] ++ encs (ms.take i)).length = q by rw [← hen]; simp; omega]; exact h) HGD.out (by simp; omega) HB4.out.size
    have HWR:=zIo hwr
    clear hwr c0 c1 c2 c3 c4 c5 c6
    refine HWR.out.mono ?_
    rintro r w5 ⟨v5,rfl,hw5⟩
    have hlq : (([t,s,so,d] ++ encs (ms.take i)) ++ m.enc).length = 4 + (encs (ms.take (i + 1))).length:=by rw [HTK.out,zBm]; simp; omega
    have h5:=hw5.at' hlq
    obtain ⟨A2,cp2,rfl⟩:=zAK h5
    have HB5:=zIo (zAw HB4.out hw5.keep HB4.out.size (fun q hq=>(HO4.out.lt q hq).1))
    have HO5 : Hid (w5.ownsRow w.heap.size 5 1 (.slice A2 (4 + (encs (ms.take (i + 1))).length) cp2) (4 + (encs (ms.take (i + 1))).length) (([t,s,so,d] ++ encs (ms.take (i + 1))).map u8)):=zIo (by have h6:=h5; rw [List.append_assoc, ← zBm, ← HTK.out] at h6; exact h6)
    have HR5 : Hid (∀ m ∈ ms.take (i + 1),m.Right):=zIo (fun x hx=>by
     rw [HTK.out] at hx
     rcases List.mem_append.1 hx with hx | hx
     ·exact HRI.out x hx
     ·rw [List.mem_singleton.1 hx]
      exact HGD.out.1)
    clear hw5 h5 hlq HWR HB4 HM4 HO4 HRI
    go_wp2_with fail
    go_roundw
    case rel=>exact ⟨i + 1,A2,cp2,by omega,rfl,by go_num,HR5,HB5,HO5⟩
    case measure=>first | omega | (simp [RowKit.intOf]; done) | (simp [RowKit.intOf]; omega)
  ·obtain rfl : i = ms.length:=by omega
   have hnn : ¬ (ms.length : Int) < (ms.length : Int):=by omega
   have hO:=HOI.out
   have hRR:=HRI.out
   rw [List.take_length] at hO hRR
   have HOF:=zIo hO
   have HRF:=zIo hRR
   have hlen : (encs (ms.take ms.length)).length = (encs ms).length:=by rw [List.take_length]
   rw [hlen]
   clear hO hRR HOI HRI hlen
   go_wp2_with fail
   go_ret2
   exact ⟨_,_,rfl,HBI.out,.ok HR.out (by omega) HRF.out _ (by
    have h:=HOF.out
    rw [Own8,show ([t,s,so,d] ++ encs ms).length = 4 + (encs ms).length by simp; omega]
    exact h)⟩
end
section
open Go.RowKit
structure AtLM (w : World) (b o : Nat) (v : LM) : Prop where
 c0 : w.cell? ⟨b,o,none⟩ = some (i64 v.kind)
 c1 : w.cell? ⟨b,o + 1,none⟩ = some (i64 v.who)
 c2 : w.cell? ⟨b,o + 2,none⟩ = some (i64 v.n)
 c3 : w.cell? ⟨b,o + 3,none⟩ = some (i64 v.start)
 c4 : w.cell? ⟨b,o + 4,none⟩ = some (.bool v.take)
 c5 : w.cell? ⟨b,o + 5,none⟩ = some (.bool v.right)
 c6 : w.cell? ⟨b,o + 6,none⟩ = some (u64 v.value)
 c7 : w.cell? ⟨b,o + 7,none⟩ = some (i64 v.odd)
theorem AtLM.later {w w' : World} {b o : Nat} {v : LM} (h : AtLM w b o v) (e : Below w.heap.size w w') : AtLM w' b o v:=by
 have hb:=World.block_lt_of_cell? w _ h.c0
 exact ⟨(e.cell (p:=⟨b,o,none⟩) hb).trans h.c0,(e.cell (p:=⟨b,o + 1,none⟩) hb).trans h.c1,(e.cell (p:=⟨b,o + 2,none⟩) hb).trans h.c2,(e.cell (p:=⟨b,o + 3,none⟩) hb).trans h.c3,(e.cell (p:=⟨b,o + 4,none⟩) hb).trans h.c4,(e.cell (p:=⟨b,o + 5,none⟩) hb).trans h.c5,(e.cell (p:=⟨b,o + 6,none⟩) hb).trans h.c6,(e.cell (p:=⟨b,o + 7,none⟩) hb).trans h.c7⟩
def LM.Fit (v : LM) : Prop:=0 ≤ v.value ∧ v.value ≤ 18446744073709551615
theorem LM.base_fit {v : LM} (h : v.Fit) : v.base.Fit:=by
  unfold LM.base CM.Fit
  split
  ·split
   ·exact ⟨Int.le_refl _,by show (0 : Int) ≤ 18446744073709551615; decide⟩
   ·exact h
  ·split
   ·exact ⟨Int.le_refl _,by show (0 : Int) ≤ 18446744073709551615; decide⟩
   ·exact ⟨Int.le_refl _,by show (0 : Int) ≤ 18446744073709551615; decide⟩
structure RowL (w : World) (A : Option Addr) (cap : Nat) (V : List LM) : Prop where
 cap : V.length ≤ cap
 at' : ∀ (i : Nat) (v : LM),V[i]? = some v → ∃ b off,A = some ⟨b,off,none⟩ ∧ AtLM w b (off + i * 8) v
 fit : ∀ v ∈ V,v.Fit
theorem RowL.later {w w' : World} {A : Option Addr} {cap : Nat} {V : List LM} (h : RowL w A cap V) (e : Below w.heap.size w w') : RowL w' A cap V :=
 ⟨h.cap,fun i v hi=>by obtain ⟨b,off,h1,h2⟩:=h.at' i v hi; exact ⟨b,off,h1,h2.later e⟩,h.fit⟩
theorem zEe {w : World} {A : Option Addr} {len cap : Nat} (h : IsRows w [.inl .i64,.inl .i64,.inl .i64,.inl .i64,.inr true,.inr true,.inl .u64,.inl .i64] A len cap) : ∃ V : List LM,V.length = len ∧ RowL w A cap V:=by
 obtain ⟨h1,h2,h3,h4,h5⟩:=h
 rcases Nat.eq_zero_or_pos len with h0 | hl
 ·subst h0
  exact ⟨[],rfl,Nat.zero_le _,fun i v hi=>by simp at hi,fun v hv=>by cases hv⟩
 obtain ⟨b,off,rfl⟩:=h4 hl
 have hx : ∀ i, ∃ x : LM,i < len → AtLM w b (off + i * 8) x ∧ x.Fit:=by
  intro i
  by_cases hi : i < len
  ·obtain ⟨cs,hf,hc⟩:=h5 b off rfl i hi
   obtain ⟨c0,l0,rfl,r0,f0⟩:=zA1 hf
   obtain ⟨c1,l1,rfl,r1,f1⟩:=zA1 f0
   obtain ⟨c2,l2,rfl,r2,f2⟩:=zA1 f1
   obtain ⟨c3,l3,rfl,r3,f3⟩:=zA1 f2
   obtain ⟨c4,l4,rfl,r4,f4⟩:=zA1 f3
   obtain ⟨c5,l5,rfl,r5,f5⟩:=zA1 f4
   obtain ⟨c6,l6,rfl,r6,f6⟩:=zA1 f5
   obtain ⟨c7,l7,rfl,r7,f7⟩:=zA1 f6
   obtain ⟨x0,rfl,g0⟩:=r0
   obtain ⟨x1,rfl,g1⟩:=r1
   obtain ⟨x2,rfl,g2⟩:=r2
   obtain ⟨x3,rfl,g3⟩:=r3
   obtain ⟨x4,rfl⟩:=r4
   obtain ⟨x5,rfl⟩:=r5
   obtain ⟨x6,rfl,g6⟩:=r6
   obtain ⟨x7,rfl,g7⟩:=r7
   exact ⟨⟨x0,x1,x2,x3,x4,x5,x6,x7⟩,fun _=>⟨⟨hc 0 _ rfl,hc 1 _ rfl,hc 2 _ rfl,hc 3 _ rfl,hc 4 _ rfl,hc 5 _ rfl,hc 6 _ rfl,hc 7 _ rfl⟩,(bounds_u64 g6).1,(bounds_u64 g6).2⟩⟩
  ·exact ⟨⟨0,0,0,0,false,false,0,0⟩,fun h=>absurd h hi⟩
 obtain ⟨X,hX⟩:=Classical.axiomOfChoice hx
 refine ⟨(List.range len).map X,by simp,by simpa using h1,fun i v hi=>?_,fun v hv=>?_⟩
 ·have hlt : i < len:=by
   have:=(List.getElem?_eq_some_iff.1 hi).1
   simpa using this
  rw [List.getElem?_map,List.getElem?_range hlt] at hi
  cases hi
  exact ⟨b,off,rfl,(hX i hlt).1⟩
 ·obtain ⟨i,hi,rfl⟩:=List.mem_map.1 hv
  exact (hX i (List.mem_range.1 hi)).2
end
section
open Go.RowKit
def rdCall : List Int → Option (Int × Int × Int × Int × Nat)
 | []=>none
 | how :: r=>if how % 2 = 0 then (if 8 ≤ r.length then some (how % 2,how / 2,un8 (r.take 8),0,9) else none) else match r with
  | []=>none
  | s :: _=>some (how % 2,how / 2,0,s,2)
def rdMove : List Int → Option (CM × Nat)
 | []=>none
 | k :: r=>if k = 0 then (match r with
   | []=>none
   | who :: r2=>match rdCall r2 with
    | none=>none
    | some (ck,ce,v,s,n)=>some (⟨0,who,ck,ce,v,s,0⟩,n + 2))
  else if k = 1 then (match r with
   | []=>none
   | who :: _=>some (⟨1,who,0,0,0,0,0⟩,2))
  else if k = 2 then (if 2 ≤ r.length then some (⟨2,0,0,0,0,0,un8 (r.take 2)⟩,3) else none)
  else some (⟨k,0,0,0,0,0,0⟩,1)
theorem zEm {l : List Int} {n : Nat} (hl : ∀ b ∈ l,0 ≤ b ∧ b ≤ 255) (h : n ≤ l.length) : le8 n (un8 (l.take n)) ++ l.drop n = l:=by
 have h1:=zFw (l.take n) (fun b hb=>hl b (List.mem_of_mem_take hb))
 rw [List.length_take,Nat.min_eq_left h] at h1
 rw [h1,List.take_append_drop]
theorem zFN {l : List Int} (hl : ∀ b ∈ l,0 ≤ b ∧ b ≤ 255) {ck ce v s : Int} {n : Nat} (h : rdCall l = some (ck,ce,v,s,n)) :
  ∃ r,l = ((ck + 2 * ce) :: (if ck = 0 then le8 8 v else [s])) ++ r ∧ n = ((ck + 2 * ce) :: (if ck = 0 then le8 8 v else [s])).length ∧ 0 ≤ v ∧ v ≤ 18446744073709551615 ∧ (ck = 0 → s = 0) ∧ (ck ≠ 0 → v = 0 ∧ ck = 1 ∧ 0 ≤ s ∧ s ≤ 255):=by
 cases l with
 | nil=>cases h
 | cons how r =>
  have hb:=hl how List.mem_cons_self
  have hr : ∀ b ∈ r,0 ≤ b ∧ b ≤ 255:=fun b hb=>hl b (List.mem_cons_of_mem _ hb)
  unfold rdCall at h
  dsimp only at h
  by_cases h0 : how % 2 = 0
  ·rw [if_pos h0] at h
   by_cases h8 : 8 ≤ r.length
   ·rw [if_pos h8] at h
    simp only [Option.some.injEq,Prod.mk.injEq] at h
    obtain ⟨rfl,rfl,rfl,rfl,rfl⟩:=h
    have hf:=zEH (r.take 8) (fun b hb=>hr b (List.mem_of_mem_take hb))
    rw [List.length_take,Nat.min_eq_left h8] at hf
    have h256 : (256 : Int) ^ 8 = 18446744073709551616:=by decide
    refine ⟨r.drop 8, ?_, ?_,by omega,by omega,fun _=>rfl,fun hn=>absurd h0 hn⟩
    ·rw [if_pos h0,List.cons_append,zEm hr h8]
     congr 1
     omega
    ·rw [if_pos h0,List.length_cons,zAo]
   ·rw [if_neg h8] at h
    cases h
  ·rw [if_neg h0] at h
   cases r with
   | nil=>cases h
   | cons s' r' =>
    simp only [Option.some.injEq,Prod.mk.injEq] at h
    obtain ⟨rfl,rfl,rfl,rfl,rfl⟩:=h
    have hs:=hr s' List.mem_cons_self
    refine ⟨r', ?_, ?_,by omega,by omega,fun hn=>absurd hn h0,fun _=>⟨rfl,by omega,hs.1,hs.2⟩⟩
    ·rw [if_neg h0,List.cons_append,List.cons_append,List.nil_append]
     congr 1
     omega
    ·rw [if_neg h0]
     rfl
theorem zFa {l : List Int} (hl : ∀ b ∈ l,0 ≤ b ∧ b ≤ 255) {m : CM} {n : Nat} (h : rdMove l = some (m,n)) (hm : m.Right) : m.Good ∧ ∃ r,l = m.enc ++ r ∧ n = m.enc.length:=by
 cases l with
 | nil=>cases h
 | cons k r =>
  have hr : ∀ b ∈ r,0 ≤ b ∧ b ≤ 255:=fun b hb=>hl b (List.mem_cons_of_mem _ hb)
  unfold rdMove at h
  dsimp only at h
  by_cases k0 : k = 0
  ·rw [if_pos k0] at h
   cases r with
   | nil=>cases h
   | cons who r2 =>
    simp only at h
    cases hc : rdCall r2 with
    | none =>
     rw [hc] at h
     cases h
    | some x =>
     obtain ⟨ck,ce,v,s,q⟩:=x
     rw [hc] at h
     simp only [Option.some.injEq,Prod.mk.injEq] at h
     obtain ⟨rfl,rfl⟩:=h
     obtain ⟨r',h1,h2,h3,h4,_⟩:=zFN (fun b hb=>hr b (List.mem_cons_of_mem _ hb)) hc
     refine ⟨⟨hm,h3,h4⟩,r', ?_, ?_⟩
     ·unfold CM.enc
      simp only
      rw [if_neg (by decide),if_neg (by decide),h1,k0]
      rfl
     ·unfold CM.enc
      simp only
      rw [if_neg (by decide),if_neg (by decide),h2]
      rfl
  ·rw [if_neg k0] at h
   by_cases k1 : k = 1
   ·rw [if_pos k1] at h
    cases r with
    | nil=>cases h
    | cons who r2 =>
     simp only [Option.some.injEq,Prod.mk.injEq] at h
     obtain ⟨rfl,rfl⟩:=h
     refine ⟨⟨hm,by show (0 : Int) ≤ 0; decide,by show (0 : Int) ≤ _; decide⟩,r2, ?_, ?_⟩
     ·rw [k1]
      rfl
     ·rfl
   ·rw [if_neg k1] at h
    by_cases k2 : k = 2
    ·rw [if_pos k2] at h
     by_cases h2 : 2 ≤ r.length
     ·rw [if_pos h2] at h
      simp only [Option.some.injEq,Prod.mk.injEq] at h
      obtain ⟨rfl,rfl⟩:=h
      refine ⟨⟨hm,by show (0 : Int) ≤ 0; decide,by show (0 : Int) ≤ _; decide⟩,r.drop 2, ?_, ?_⟩
      ·show k :: r = (2 :: le8 2 (un8 (r.take 2))) ++ r.drop 2
       rw [List.cons_append,zEm hr h2,k2]
      ·show 3 = (2 :: le8 2 (un8 (r.take 2))).length
       rw [List.length_cons,zAo]
     ·rw [if_neg h2] at h
      cases h
    ·rw [if_neg k2] at h
     simp only [Option.some.injEq,Prod.mk.injEq] at h
     obtain ⟨rfl,rfl⟩:=h
     rcases hm with hm | hm | hm
     ·exact absurd hm.1 k0
     ·exact absurd hm.1 k1
     ·exact absurd hm.1 k2
theorem zCp {m : CM} (hm : m.Good) (r : List Int) : rdMove (m.enc ++ r) = some (m,m.enc.length):=by
 obtain ⟨k,who,ck,ce,v,s,n⟩:=m
 obtain ⟨hr,v0,v1⟩:=hm
 simp only at v0 v1
 unfold CM.Right CM.beg CM.stp CM.pas at hr
 simp only at hr
 unfold CM.enc
 simp only
 by_cases k1 : k = 1
 ·rw [if_pos k1]
  show some ((⟨1,who,0,0,0,0,0⟩ : CM),2) = some ((⟨k,who,ck,ce,v,s,n⟩ : CM),2)
  rw [Option.some.injEq,Prod.mk.injEq,CM.mk.injEq]
  omega
 ·rw [if_neg k1]
  by_cases k2 : k = 2
  ·rw [if_pos k2,List.cons_append]
   show (if 2 ≤ (le8 2 n ++ r).length then some ((⟨2,0,0,0,0,0,un8 ((le8 2 n ++ r).take 2)⟩ : CM),3) else none) = _
   have hlen : (le8 2 n).length = 2:=zAo 2 n
   have ht : (le8 2 n ++ r).take 2 = le8 2 n:=by rw [List.take_append_of_le_length (by omega),List.take_of_length_le (by omega)]
   have h256 : (256 : Int) ^ 2 = 65536:=by decide
   rw [if_pos (by rw [List.length_append]; omega),ht,zCU 2 n (by omega) (by omega),List.length_cons,hlen,Option.some.injEq,Prod.mk.injEq,CM.mk.injEq]
   omega
  ·rw [if_neg k2]
   have k0 : k = 0:=by omega
   subst k0
   by_cases c0 : ck = 0
   ·rw [if_pos c0]
    have hlen : (le8 8 v).length = 8:=zAo 8 v
    have ht : (le8 8 v ++ r).take 8 = le8 8 v:=by rw [List.take_append_of_le_length (by omega),List.take_of_length_le (by omega)]
    have h256 : (256 : Int) ^ 8 = 18446744073709551616:=by decide
    have hc : rdCall ((ck + 2 * ce) :: (le8 8 v ++ r)) = some ((ck + 2 * ce) % 2,(ck + 2 * ce) / 2,v,0,9):=by
     unfold rdCall
     dsimp only
     rw [if_pos (by omega),if_pos (by rw [List.length_append]; omega),ht,zCU 8 v v0 (by omega)]
    show (match rdCall ((ck + 2 * ce) :: (le8 8 v ++ r)) with
     | none=>none
     | some (ck,ce,v,s,n)=>some ((⟨0,who,ck,ce,v,s,0⟩ : CM),n + 2)) = _
    rw [hc]
    dsimp only
    rw [Option.some.injEq,Prod.mk.injEq,CM.mk.injEq]
    exact ⟨⟨rfl,rfl,by omega,by omega,rfl,by omega,by omega⟩,by simp [hlen]⟩
   ·rw [if_neg c0]
    have hc : rdCall ((ck + 2 * ce) :: ([s] ++ r)) = some ((ck + 2 * ce) % 2,(ck + 2 * ce) / 2,0,s,2):=by
     unfold rdCall
     dsimp only
     rw [if_neg (by omega)]
     rfl
    show (match rdCall ((ck + 2 * ce) :: ([s] ++ r)) with
     | none=>none
     | some (ck,ce,v,s,n)=>some ((⟨0,who,ck,ce,v,s,0⟩ : CM),n + 2)) = _
    rw [hc]
    dsimp only
    rw [Option.some.injEq,Prod.mk.injEq,CM.mk.injEq]
    exact ⟨⟨rfl,rfl,by omega,by omega,by omega,rfl,by omega⟩,rfl⟩
end
section
open Go.RowKit
theorem zIe (a b p : Int) (k : Nat) (hp : p = ((2 ^ k : Nat) : Int)) (h0 : 0 ≤ a) (h1 : a < p) (hb : 0 ≤ b) (hlt : b * p < 18446744073709551616) (hp2 : p < 18446744073709551616) : bits .or .u64 a (b * p) = a + b * p:=by
 obtain ⟨n,rfl⟩:=Int.eq_ofNat_of_zero_le h0
 obtain ⟨m,rfl⟩:=Int.eq_ofNat_of_zero_le hb
 subst hp
 rw [← Int.natCast_mul] at hlt ⊢
 rw [u64_or_nat n (m * 2 ^ k) (by omega) (by omega)]
 have h2 : n < 2 ^ k:=by omega
 have h3:=Nat.two_pow_add_eq_or_of_lt h2 m
 rw [Nat.mul_comm m,Nat.or_comm, ← h3]
 omega
end
section
open Go.RowKit
section
variable {P : Program} {ops : Array Oper} {Q : Exit → Act → World → Prop} {S : World → Prop}
end
end
section
open Go.RowKit
def Byt (l : List Int) : Prop:=∀ b ∈ l,0 ≤ b ∧ b ≤ 255
abbrev rdL (A : Option Addr) (l : List Int) (cap at' : Nat) (sh : Bool) : List Value:=[.slice A l.length cap,i64 at',.bool sh]
structure RdIn (w : World) (rb : Nat) (A : Option Addr) (l : List Int) (cap at' : Nat) (sh : Bool) : Prop where
 obj : IsObj w rb (rdL A l cap at' sh)
 row : IsAt w A (l.map u8)
 cap : l.length ≤ cap
 apart : ∀ b off,A = some ⟨b,off,none⟩ → b ≠ rb
 le : at' ≤ l.length
 byt : Byt l
 few : l.length ≤ 1000000
section
variable {w w' : World} {rb : Nat} {A : Option Addr} {l : List Int} {cap at' : Nat} {sh : Bool}
theorem RdIn.later (h : RdIn w rb A l cap at' sh) (e : Below w.heap.size w w') : RdIn w' rb A l cap at' sh :=
 ⟨h.obj.later e,h.row.later e,h.cap,h.apart,h.le,h.byt,h.few⟩
theorem RdIn.keep {T : Nat → Prop} (h : RdIn w rb A l cap at' sh) (k : Keep T w w') (h1 : ¬ T rb) (h2 : ∀ b off,A = some ⟨b,off,none⟩ → 0 < l.length → ¬ T b) : RdIn w' rb A l cap at' sh :=
 ⟨h.obj.keep k h1,fun hp=>by
  obtain ⟨b,off,g1,g2,g3⟩:=h.row hp
  rw [List.length_map] at hp
  exact ⟨b,off,g1,Nat.lt_of_lt_of_le g2 k.size,fun j u hj=>k.cell (g3 j u hj) (h2 b off g1 hp)⟩,h.cap,h.apart,h.le,h.byt,h.few⟩
theorem RdIn.old (h : RdIn w rb A l cap at' sh) : ∀ b off,A = some ⟨b,off,none⟩ → 0 < l.length → b < w.heap.size:=fun b off hA hp=>by
 obtain ⟨b',off',g1,g2,_⟩:=h.row (by rw [List.length_map]; exact hp)
 rw [hA] at g1
 cases g1
 exact g2
theorem RdIn.turn (h : RdIn w rb A l cap at' sh) {a2 : Nat} {s2 : Bool} (k : Keep (· = rb) w w') (ho : IsObj w' rb (rdL A l cap a2 s2)) (hl : a2 ≤ l.length) : RdIn w' rb A l cap a2 s2 :=
 ⟨ho,fun hp=>by
  obtain ⟨b,off,h1,h2,h3⟩:=h.row hp
  exact ⟨b,off,h1,Nat.lt_of_lt_of_le h2 k.size,fun j u hj=>k.cell (h3 j u hj) (h.apart b off h1)⟩,h.cap,h.apart,hl,h.byt,h.few⟩
end
def NumIs (w : World) (rb : Nat) (A : Option Addr) (l : List Int) (cap at' : Nat) (sh : Bool) (n : Nat) (x : Int) (w' : World) : Prop :=
 Keep (· = rb) w w' ∧ ((l.length < at' + n ∧ x = 0 ∧ RdIn w' rb A l cap at' true) ∨ (at' + n ≤ l.length ∧ x = un8 ((l.drop at').take n) ∧ RdIn w' rb A l cap (at' + n) sh))
theorem zIH {X b : Int} {i : Nat} (hi : i < 8) (x0 : 0 ≤ X) (x1 : X < 256 ^ i) (b0 : 0 ≤ b) (b1 : b ≤ 255) : bits .or .u64 X (IntKind.u64.wrap (b * 2 ^ (8 * i))) = X + b * 256 ^ i:=by
 have e : (2 : Int) ^ (8 * i) = 256 ^ i:=by rw [Int.pow_mul]; rfl
 have hp : (256 : Int) ^ i ≤ 72057594037927936 ∧ 1 ≤ (256 : Int) ^ i:=by
  rcases (by omega : i = 0 ∨ i = 1 ∨ i = 2 ∨ i = 3 ∨ i = 4 ∨ i = 5 ∨ i = 6 ∨ i = 7) with rfl | rfl | rfl | rfl | rfl | rfl | rfl | rfl <;> exact ⟨by decide,by decide⟩
 have hm : b * 256 ^ i ≤ 255 * 72057594037927936:=Int.mul_le_mul b1 hp.1 (by omega) (by decide)
 have hm0 : 0 ≤ b * 256 ^ i:=Int.mul_nonneg b0 (by omega)
 have hw : IntKind.u64.wrap (b * 2 ^ (8 * i)) = b * 256 ^ i:=by rw [IntKind.wrap_u64,e]; omega
 rw [hw]
 exact zIe X b (256 ^ i) (8 * i) (by rw [Int.natCast_pow]; exact e.symm) x0 x1 b0 (by omega) (by omega)
theorem zHX {l : List Int} {at' i : Nat} {b : Int} (h : l[at' + i]? = some b) : un8 ((l.drop at').take (i + 1)) = un8 ((l.drop at').take i) + b * 256 ^ i :=
 zBj _ i b (by rw [List.getElem?_drop]; exact h)
theorem zFl {l : List Int} (h : Byt l) (a i : Nat) (hl : a + i ≤ l.length) : 0 ≤ un8 ((l.drop a).take i) ∧ un8 ((l.drop a).take i) < 256 ^ i:=by
 have h1:=zEH ((l.drop a).take i) (fun b hb=>h b (List.mem_of_mem_drop (List.mem_of_mem_take hb)))
 rw [List.length_take,List.length_drop,Nat.min_eq_left (by omega)] at h1
 exact h1
theorem zB7 (rb : Nat) (A : Option Addr) (l : List Int) (cap at' n : Nat) (sh : Bool) (w : World) (h : RdIn w rb A l cap at' sh) (hn : n ≤ 8) :
  Calls Tryz.prog 59 #[pt rb,i64 n] w fun r w' => ∃ x,r = .returned (u64 x) ∧ NumIs w rb A l cap at' sh n x w':=by
 have H:=zIo h
 have hle:=h.le
 have hfew:=h.few
 have c0:=h.obj.at' 0 _ rfl
 have c1:=h.obj.at' 1 _ rfl
 have c2:=h.obj.at' 2 _ rfl
 have f0:=h.obj.fz 0
 have f1:=h.obj.fz 1
 have f2:=h.obj.fz 2
 have hlt:=h.obj.lt
 clear h
 obtain ⟨dl,hdl⟩ : ∃ dl : Nat,l.length = at' + dl:=⟨l.length - at',by omega⟩
 have hwr : IntKind.i64.wrap ((l.length : Int) - (at' : Int)) = (dl : Int):=by rw [IntWalk.i64_in _ (by omega)]; omega
 have HDL:=zIo hdl
 clear hdl
 rcases Nat.lt_or_ge dl n with hs | hs
 ·have hs' : (dl : Int) < (n : Int):=by omega
  go_enter Tryz.func59,Tryz.ntmps59
  go_wp2_with fail
  refine zAN ((0,true) :: (1,true) :: (2,true) :: (3,true) :: (4,true) :: (5,true) :: (6,true) :: (7,true) :: (8,true) :: (9,true) :: (10,true) :: (11,true) :: []) (by kernel_rfl) (by kernel_rfl) (by kernel_rfl) (by decide) (fun _ _ _ _ _ h=>h) (fun hHeld=>?_)
  repeat (first
   | (refine zAC (v := ?_) rfl ?_ ?_ ?_; rotate_left 1; rfl; (focus (intro wS hSw; have hk:=zAM hSw; go_simp; first | done | with_reducible rfl)); (try simp only [Act.put,qset]))
   | (refine zAB rfl ?_ ?_; rfl; (try simp only [Act.put,qset]))
   | (refine zAH rfl (fun K hK=>?_); go_simp; (try skip); (try go_wp2_with fail); refine hK.out _ _ ?_ ?_; (focus (first | exact zAE hHeld hb' | exact zAA hHeld _ | exact hHeld)); (try clear hb'); clear hHeld hK K; intro hHeld; (try simp only [Act.put,qset])))
  first | refine zAJ ?_ | skip
  go_wp2_with fail
  go_ret
  have h1:=(H.out.obj.later (Below.refl w.heap.size w).drew).set 2 (.bool true)
  have hk : Keep (· = rb) w (w.drew.setCell ⟨rb,2,none⟩ (.bool true)):=Keep.setCell (T:=(· = rb)) (Keep.drew (Keep.refl _ _)) ⟨rb,2,none⟩ rfl _
  exact ⟨0,rfl,hk,.inl ⟨by have:=HDL.out; omega,rfl,H.out.turn hk h1 H.out.le⟩⟩
 ·have hs' : ¬ (dl : Int) < (n : Int):=by omega
  go_enter Tryz.func59,Tryz.ntmps59
  go_wp2_with fail
  refine zAN ((0,true) :: (1,true) :: (2,true) :: (3,true) :: (4,true) :: (5,true) :: (6,true) :: (7,true) :: (8,true) :: (9,true) :: (10,true) :: (11,true) :: []) (by kernel_rfl) (by kernel_rfl) (by kernel_rfl) (by decide) (fun _ _ _ _ _ h=>h) (fun hHeld=>?_)
  repeat (first
   | (refine zAC (v := ?_) rfl ?_ ?_ ?_; rotate_left 1; rfl; (focus (intro wS hSw; have hk:=zAM hSw; go_simp; first | done | with_reducible rfl)); (try simp only [Act.put,qset]))
   | (refine zAB rfl ?_ ?_; rfl; (try simp only [Act.put,qset]))
   | (refine zAH rfl (fun K hK=>?_); go_simp; (try skip); (try go_wp2_with fail); refine hK.out _ _ ?_ ?_; (focus (first | exact zAE hHeld hb' | exact zAA hHeld _ | exact hHeld)); (try clear hb'); clear hHeld hK K; intro hHeld; (try simp only [Act.put,qset])))
  first | refine zAJ ?_ | skip
  go_wp2_with fail
  try rw [decide_eq_false (show ¬ dl < n by omega)]
  go_loopw [5,23] (fun xv iv wr => ∃ i : Nat,i ≤ n ∧ xv = .int .u64 (un8 ((l.drop at').take i)) ∧ iv = .int .i64 i ∧ Hid (Below w.heap.size w wr)) (fun _ iv _=>n - (RowKit.intOf iv).toNat)
  case atStart=>exact ⟨0,Nat.zero_le _,rfl,rfl,zIo (Below.refl _ _).drew⟩
  case round =>
   clear c0 c1 c2 f0 f1 f2
   obtain ⟨i,hi,rfl,rfl,HB⟩:=hrel
   have H1:=zIo (H.out.later HB.out)
   have c0:=H1.out.obj.at' 0 _ rfl
   have c1:=H1.out.obj.at' 1 _ rfl
   have c2:=H1.out.obj.at' 2 _ rfl
   have f0:=H1.out.obj.fz 0
   have f1:=H1.out.obj.fz 1
   have f2:=H1.out.obj.fz 2
   rcases Nat.lt_or_ge i n with hin | hin
   ·have hin' : (i : Int) < (n : Int):=by omega
    have hidx : at' + i < l.length:=by have:=HDL.out; omega
    obtain ⟨b,hb⟩ : ∃ b,l[at' + i]? = some b:=⟨_,List.getElem?_eq_getElem hidx⟩
    obtain ⟨bb,off,hA,hbl,hat⟩:=H1.out.row (by rw [List.length_map]; omega)
    have hcell:=hat (at' + i) (u8 b) (by rw [List.getElem?_map,hb]; rfl)
    have hby:=H1.out.byt b (List.mem_of_getElem? hb)
    have hun:=zFl H1.out.byt at' i (by omega)
    have hor:=zIH (X:=un8 ((l.drop at').take i)) (b:=b) (by omega : i < 8) hun.1 hun.2 hby.1 hby.2
    rw [← zHX hb,show 8 * i = (8 * (i : Int)).toNat by omega] at hor
    obtain ⟨ix,hixe⟩ : ∃ ix,ix = at' + i:=⟨_,rfl⟩
    have hwi : IntKind.i64.wrap ((at' : Int) + (i : Int)) = (ix : Int):=by rw [IntWalk.i64_in _ (by omega)]; omega
    rw [← hixe] at hcell hidx
    have hix : (ix : Int) < (l.length : Int):=by omega
    have hub : IntKind.u64.wrap b = b:=by rw [IntKind.wrap_u64]; omega
    have h8i : IntKind.i64.wrap (8 * (i : Int)) = 8 * (i : Int):=IntWalk.i64_in _ (by omega)
    clear hixe
    have HUN:=zIo hun
    have HA:=zIo hA
    clear hat hun hby hb
    generalize un8 ((l.drop at').take i) = X at *
    obtain ⟨X1,HX2⟩ : ∃ X1,Hid (un8 ((l.drop at').take (i + 1)) = X1):=⟨_,zIo rfl⟩
    rw [HX2.out] at hor
    subst hA
    go_wp2_with fail
    refine zAN ((0,true) :: (1,true) :: (2,true) :: (3,true) :: (4,true) :: (5,true) :: (6,true) :: (7,true) :: (8,true) :: (9,true) :: (10,true) :: (11,true) :: (12,true) :: (13,true) :: (14,true) :: (15,true) :: (16,true) :: (17,true) :: (18,true) :: []) (by kernel_rfl) (by kernel_rfl) (by kernel_rfl) (by decide) (fun _ _ _ _ _ h=>h) (fun hHeld=>?_)
    repeat (first
     | (refine zAC (v := ?_) rfl ?_ ?_ ?_; rotate_left 1; rfl; (focus (intro wS hSw; have hk:=zAM hSw; go_simp; first | done | with_reducible rfl)); (try simp only [Act.put,qset]))
     | (refine zAB rfl ?_ ?_; rfl; (try simp only [Act.put,qset]))
     | (refine zAH rfl (fun K hK=>?_); go_simp; (try skip); (try go_wp2_with fail); refine hK.out _ _ ?_ ?_; (focus (first | exact zAE hHeld hb' | exact zAA hHeld _ | exact hHeld)); (try clear hb'); clear hHeld hK K; intro hHeld; (try simp only [Act.put,qset])))
    first | refine zAJ ?_ | skip
    have HB2:=zIo (zAE HB.out hHeld)
    go_wp2_with fail
    go_roundw
    case rel=>exact ⟨i + 1,by omega,by rw [HX2.out],by go_num,HB2⟩
    case measure=>first | omega | (simp [RowKit.intOf]; done) | (simp [RowKit.intOf]; omega)
   ·obtain rfl : i = n:=by omega
    have hnn : ¬ (i : Int) < (i : Int):=by omega
    have hwi : IntKind.i64.wrap ((at' : Int) + (i : Int)) = ((at' + i : Nat) : Int):=by rw [IntWalk.i64_in _ (by omega)]; omega
    have HO:=zIo H1.out.obj
    clear H1
    go_wp2_with fail
    go_ret
    have h1:=HO.out.set 1 (i64 ((at' + i : Nat) : Int))
    have hk : Keep (· = rb) w (wr.setCell ⟨rb,1,none⟩ (i64 ((at' + i : Nat) : Int))):=Keep.setCell (T:=(· = rb)) (Keep.of_below HB.out) ⟨rb,1,none⟩ rfl _
    exact ⟨_,rfl,hk,.inr ⟨by have:=HDL.out; omega,rfl,H.out.turn hk h1 (by have:=HDL.out; omega)⟩⟩
theorem zBN (rb : Nat) (A : Option Addr) (l : List Int) (cap at' : Nat) (sh : Bool) (w : World) (h : RdIn w rb A l cap at' sh) :
  Calls Tryz.prog 57 #[pt rb] w fun r w' => ∃ x,r = .returned (i64 x) ∧ NumIs w rb A l cap at' sh 1 x w':=by
 have H:=zIo h
 clear h
 go_enter Tryz.func57,Tryz.ntmps57
 go_wp2_with fail
 refine (zB7 rb A l cap at' 1 sh _ H.out (by decide)).mono ?_
 rintro r w' ⟨x,rfl,hN⟩
 have hx : IntKind.i64.wrap x = x:=by
  obtain ⟨_,⟨_,rfl,_⟩ | ⟨hle,hx,_⟩⟩:=hN
  ·rfl
  ·have h1:=zFl H.out.byt at' 1 hle
   rw [← hx] at h1
   rw [Int.pow_one] at h1
   exact IntWalk.i64_in _ (by omega)
 have HN:=zIo hN
 clear hN
 go_wp2_with fail
 go_ret
 exact ⟨x,rfl,HN.out⟩
def CallIs (w : World) (rb : Nat) (A : Option Addr) (l : List Int) (cap at' : Nat) (sh : Bool) (ck ce v s : Int) (w' : World) : Prop :=
 Keep (· = rb) w w' ∧ ∃ a2 s2,RdIn w' rb A l cap a2 s2 ∧ ((s2 = true ∧ (sh = true ∨ rdCall (l.drop at') = none)) ∨ (s2 = sh ∧ ∃ n,rdCall (l.drop at') = some (ck,ce,v,s,n) ∧ a2 = at' + n))
theorem zFt (rb : Nat) (A : Option Addr) (l : List Int) (cap at' : Nat) (sh : Bool) (w : World) (h : RdIn w rb A l cap at' sh) :
  Calls Tryz.prog 58 #[pt rb] w fun r w' => ∃ ck ce v s,r = .returned (.agg #[.int .i64 ck,.int .i64 ce,.int .u64 v,.int .i64 s]) ∧ CallIs w rb A l cap at' sh ck ce v s w':=by
 have hk0 : Keep (· = rb) w (w.alloc (.cells #[.int .i64 0,.int .i64 0,.int .u64 0,.int .i64 0] 48)):=Keep.of_below (zAA (Below.refl _ _) _)
 have H:=zIo (h.later (zAA (Below.refl _ _) (.cells #[.int .i64 0,.int .i64 0,.int .u64 0,.int .i64 0] 48)))
 have HK:=zIo hk0
 have HO:=zIo (IsObj.made w [.int .i64 0,.int .i64 0,.int .u64 0,.int .i64 0] 48)
 have HLT:=zIo h.obj.lt
 have HOLD:=zIo h.old
 clear h hk0
 go_enter Tryz.func58,Tryz.ntmps58
 go_wp2_with fail
 generalize (w.alloc (.cells #[.int .i64 0,.int .i64 0,.int .u64 0,.int .i64 0] 48)) = w1 at H HK HO ⊢
 refine (zBN rb A l cap at' sh _ H.out).mono ?_
 rintro r w2 ⟨how,rfl,hN⟩
 obtain ⟨k2,hN2⟩:=hN
 have hne : ∀ q,q = rb → q ≠ w.heap.size:=fun q hq=>by have:=HLT.out; omega
 have HK2:=zIo (HK.out.trans k2)
 have HO2:=zIo (HO.out.keep k2 (fun e=>hne _ e rfl))
 have HNE:=zIo hne
 obtain ⟨a2,s2,hR,hW⟩ : ∃ a2 s2,RdIn w2 rb A l cap a2 s2 ∧ ((s2 = true ∧ how = 0 ∧ l.length < at' + 1) ∨ (s2 = sh ∧ l[at']? = some how ∧ a2 = at' + 1)):=by
  rcases hN2 with ⟨h1,h2,h3⟩ | ⟨h1,h2,h3⟩
  ·exact ⟨_,_,h3,.inl ⟨rfl,h2,h1⟩⟩
  ·refine ⟨_,_,h3,.inr ⟨rfl, ?_,rfl⟩⟩
   have hx : at' < l.length:=by omega
   rw [h2,List.getElem?_eq_getElem hx,List.drop_eq_getElem_cons hx]
   show some l[at'] = some (l[at'] + 256 * un8 [])
   rw [show un8 [] = 0 from rfl]
   simp
 have hh : 0 ≤ how ∧ how ≤ 255:=by
  rcases hW with ⟨_,rfl,_⟩ | ⟨_,h1,_⟩
  ·omega
  ·exact H.out.byt _ (List.mem_of_getElem? h1)
 have HR:=zIo hR
 have HW:=zIo hW
 clear hR hW hN2 k2 hne H HK HO
 obtain ⟨ck,hck,hckE⟩ : ∃ ck,how.tmod 2 = ck ∧ ck = how % 2:=⟨_,rfl,Int.tmod_eq_emod_of_nonneg hh.1⟩
 obtain ⟨ce,hce,hceE⟩ : ∃ ce,how.tdiv 2 = ce ∧ ce = how / 2:=⟨_,rfl,Int.tdiv_eq_ediv_of_nonneg hh.1⟩
 have hwce : wrap64 ce = ce:=by unfold wrap64; omega
 have HCK:=zIo hckE
 have HCE:=zIo hceE
 have HC:=zIo (IsObj.made w2 [.int .i64 ck,.int .i64 ce,.int .u64 0,.int .i64 0] 48)
 have hbn:=zAA (Below.refl w2.heap.size w2) (.cells #[.int .i64 ck,.int .i64 ce,.int .u64 0,.int .i64 0] 48)
 have HR3:=zIo (HR.out.later hbn)
 have HO3:=zIo (HO2.out.later hbn)
 have HK3:=zIo (HK2.out.trans (Keep.of_below hbn))
 have HLT3:=zIo (show rb < w2.heap.size ∧ w.heap.size < w2.heap.size from ⟨HR.out.obj.lt,HO2.out.lt⟩)
 clear hbn HR HK2 HO2 hckE hceE hh
 by_cases c0 : ck = 0
 ·have p0 : (ck == 0) = true:=by simp [c0]
  have C0:=zIo c0
  clear c0
  go_wp2_with fail
  refine (zB7 rb A l cap a2 8 s2 _ HR3.out (by decide)).mono ?_
  rintro r w4 ⟨x,rfl,k4,hN4⟩
  have HK4:=zIo (HK3.out.trans k4)
  have HO4:=zIo (HO3.out.keep k4 (fun e=>HNE.out _ e rfl))
  have HC4:=zIo (HC.out.keep k4 (fun e=>by have:=HLT3.out; omega))
  have HN4:=zIo hN4
  clear k4 hN4 HK3 HO3 HC HR3
  have q0:=HC4.out.at' 0 _ rfl
  have q1:=HC4.out.at' 1 _ rfl
  have q2:=HC4.out.at' 2 _ rfl
  have q3:=HC4.out.at' 3 _ rfl
  have f0:=HC4.out.fz 2
  have f3:=HC4.out.fz 3
  have o0:=HO4.out.at' 0 _ rfl
  have o1:=HO4.out.at' 1 _ rfl
  have o2:=HO4.out.at' 2 _ rfl
  have o3:=HO4.out.at' 3 _ rfl
  have g0:=HO4.out.fz 0
  have g1:=HO4.out.fz 1
  have g2:=HO4.out.fz 2
  have g3:=HO4.out.fz 3
  have hl1:=HC4.out.lt
  have hl2:=HO4.out.lt
  have hl3 : w.heap.size ≠ w2.heap.size:=by have:=HLT3.out; omega
  go_wp2_with fail
  have hk5 : Keep (fun i=>i = w.heap.size ∨ i = w2.heap.size) w4 (((((w4.setCell ⟨w2.heap.size,2,none⟩ (.int .u64 x)).setCell ⟨w.heap.size,0,none⟩ (.int .i64 ck)).setCell ⟨w.heap.size,1,none⟩ (.int .i64 ce)).setCell ⟨w.heap.size,2,none⟩ (.int .u64 x)).setCell ⟨w.heap.size,3,none⟩ (.int .i64 0)) :=
   Keep.setCell (T:=fun i=>i = w.heap.size ∨ i = w2.heap.size) (Keep.setCell (T:=fun i=>i = w.heap.size ∨ i = w2.heap.size) (Keep.setCell (T:=fun i=>i = w.heap.size ∨ i = w2.heap.size) (Keep.setCell (T:=fun i=>i = w.heap.size ∨ i = w2.heap.size) (Keep.setCell (T:=fun i=>i = w.heap.size ∨ i = w2.heap.size) (Keep.refl _ _) ⟨w2.heap.size,2,none⟩ (.inr rfl) _) ⟨w.heap.size,0,none⟩ (.inl rfl) _) ⟨w.heap.size,1,none⟩ (.inl rfl) _) ⟨w.heap.size,2,none⟩ (.inl rfl) _) ⟨w.heap.size,3,none⟩ (.inl rfl) _
  have ho5:=((((HO4.out.other (a:=w2.heap.size) 2 (.int .u64 x) hl3.symm).set 0 (.int .i64 ck)).set 1 (.int .i64 ce)).set 2 (.int .u64 x)).set 3 (.int .i64 0)
  generalize (((((w4.setCell ⟨w2.heap.size,2,none⟩ (.int .u64 x)).setCell ⟨w.heap.size,0,none⟩ (.int .i64 ck)).setCell ⟨w.heap.size,1,none⟩ (.int .i64 ce)).setCell ⟨w.heap.size,2,none⟩ (.int .u64 x)).setCell ⟨w.heap.size,3,none⟩ (.int .i64 0)) = w5 at hk5 ho5 ⊢
  have r0:=ho5.at' 0 _ rfl
  have r1:=ho5.at' 1 _ rfl
  have r2:=ho5.at' 2 _ rfl
  have r3:=ho5.at' 3 _ rfl
  refine bodyPost_ret (v:=.agg #[.int .i64 ck,.int .i64 ce,.int .u64 x,.int .i64 0]) (by simp [results,Tryz.results58,go_sem,r0,r1,r2,r3]) rfl ⟨ck,ce,x,0,rfl,HK4.out.then' hk5 (fun i hi=>.inr (by have:=HLT3.out; omega)), ?_⟩
  have rd : ∀ {a3 s3},RdIn w4 rb A l cap a3 s3 → RdIn w5 rb A l cap a3 s3:=fun {a3 s3} hr=>hr.keep hk5 (fun hh=>by have:=HLT.out; have:=HLT3.out; omega) (fun b off hA hp hh=>by have:=HOLD.out b off hA hp; have:=HLT3.out; omega)
  have h2 : how % 2 = 0:=by have:=HCK.out; have:=C0.out; omega
  rcases HW.out with ⟨hs,hh,hlen⟩ | ⟨hs,hl,ha⟩
  ·subst hs
   have hnone : rdCall (l.drop at') = none:=by rw [List.drop_of_length_le (by omega)]; rfl
   rcases HN4.out with ⟨n1,n2,n3⟩ | ⟨n1,n2,n3⟩
   ·exact ⟨_,_,rd n3,.inl ⟨rfl,.inr hnone⟩⟩
   ·exact ⟨_,_,rd n3,.inl ⟨rfl,.inr hnone⟩⟩
  ·subst hs ha
   have hx:=(List.getElem?_eq_some_iff.1 hl).1
   have hd : l.drop at' = how :: l.drop (at' + 1):=by
    rw [List.drop_eq_getElem_cons hx]
    rw [List.getElem?_eq_getElem hx,Option.some.injEq] at hl
    rw [hl]
   have hlen : (l.drop (at' + 1)).length = l.length - (at' + 1):=List.length_drop
   rcases HN4.out with ⟨n1,n2,n3⟩ | ⟨n1,n2,n3⟩
   ·refine ⟨_,_,rd n3,.inl ⟨rfl,.inr ?_⟩⟩
    rw [hd]
    unfold rdCall
    dsimp only
    rw [if_pos h2,if_neg (by omega)]
   ·refine ⟨_,_,rd n3,.inr ⟨rfl,9, ?_,rfl⟩⟩
    rw [hd,HCK.out,HCE.out,n2]
    unfold rdCall
    dsimp only
    rw [if_pos h2,if_pos (by omega)]
 ·have p0 : (ck == 0) = false:=by simp [c0]
  have C0:=zIo c0
  clear c0
  go_wp2_with fail
  refine (zBN rb A l cap a2 s2 _ HR3.out).mono ?_
  rintro r w4 ⟨x,rfl,k4,hN4⟩
  have HK4:=zIo (HK3.out.trans k4)
  have HO4:=zIo (HO3.out.keep k4 (fun e=>HNE.out _ e rfl))
  have HC4:=zIo (HC.out.keep k4 (fun e=>by have:=HLT3.out; omega))
  have HN4:=zIo hN4
  clear k4 hN4 HK3 HO3 HC HR3
  have q0:=HC4.out.at' 0 _ rfl
  have q1:=HC4.out.at' 1 _ rfl
  have q2:=HC4.out.at' 2 _ rfl
  have q3:=HC4.out.at' 3 _ rfl
  have f0:=HC4.out.fz 2
  have f3:=HC4.out.fz 3
  have o0:=HO4.out.at' 0 _ rfl
  have o1:=HO4.out.at' 1 _ rfl
  have o2:=HO4.out.at' 2 _ rfl
  have o3:=HO4.out.at' 3 _ rfl
  have g0:=HO4.out.fz 0
  have g1:=HO4.out.fz 1
  have g2:=HO4.out.fz 2
  have g3:=HO4.out.fz 3
  have hl1:=HC4.out.lt
  have hl2:=HO4.out.lt
  have hl3 : w.heap.size ≠ w2.heap.size:=by have:=HLT3.out; omega
  go_wp2_with fail
  have hk5 : Keep (fun i=>i = w.heap.size ∨ i = w2.heap.size) w4 (((((w4.setCell ⟨w2.heap.size,3,none⟩ (.int .i64 x)).setCell ⟨w.heap.size,0,none⟩ (.int .i64 ck)).setCell ⟨w.heap.size,1,none⟩ (.int .i64 ce)).setCell ⟨w.heap.size,2,none⟩ (.int .u64 0)).setCell ⟨w.heap.size,3,none⟩ (.int .i64 x)) :=
   Keep.setCell (T:=fun i=>i = w.heap.size ∨ i = w2.heap.size) (Keep.setCell (T:=fun i=>i = w.heap.size ∨ i = w2.heap.size) (Keep.setCell (T:=fun i=>i = w.heap.size ∨ i = w2.heap.size) (Keep.setCell (T:=fun i=>i = w.heap.size ∨ i = w2.heap.size) (Keep.setCell (T:=fun i=>i = w.heap.size ∨ i = w2.heap.size) (Keep.refl _ _) ⟨w2.heap.size,3,none⟩ (.inr rfl) _) ⟨w.heap.size,0,none⟩ (.inl rfl) _) ⟨w.heap.size,1,none⟩ (.inl rfl) _) ⟨w.heap.size,2,none⟩ (.inl rfl) _) ⟨w.heap.size,3,none⟩ (.inl rfl) _
  have ho5:=((((HO4.out.other (a:=w2.heap.size) 3 (.int .i64 x) hl3.symm).set 0 (.int .i64 ck)).set 1 (.int .i64 ce)).set 2 (.int .u64 0)).set 3 (.int .i64 x)
  generalize (((((w4.setCell ⟨w2.heap.size,3,none⟩ (.int .i64 x)).setCell ⟨w.heap.size,0,none⟩ (.int .i64 ck)).setCell ⟨w.heap.size,1,none⟩ (.int .i64 ce)).setCell ⟨w.heap.size,2,none⟩ (.int .u64 0)).setCell ⟨w.heap.size,3,none⟩ (.int .i64 x)) = w5 at hk5 ho5 ⊢
  have r0:=ho5.at' 0 _ rfl
  have r1:=ho5.at' 1 _ rfl
  have r2:=ho5.at' 2 _ rfl
  have r3:=ho5.at' 3 _ rfl
  refine bodyPost_ret (v:=.agg #[.int .i64 ck,.int .i64 ce,.int .u64 0,.int .i64 x]) (by simp [results,Tryz.results58,go_sem,r0,r1,r2,r3]) rfl ⟨ck,ce,0,x,rfl,HK4.out.then' hk5 (fun i hi=>.inr (by have:=HLT3.out; omega)), ?_⟩
  have rd : ∀ {a3 s3},RdIn w4 rb A l cap a3 s3 → RdIn w5 rb A l cap a3 s3:=fun {a3 s3} hr=>hr.keep hk5 (fun hh=>by have:=HLT.out; have:=HLT3.out; omega) (fun b off hA hp hh=>by have:=HOLD.out b off hA hp; have:=HLT3.out; omega)
  have h2 : ¬ how % 2 = 0:=by have:=HCK.out; have:=C0.out; omega
  rcases HW.out with ⟨hs,hh,hlen⟩ | ⟨hs,hl,ha⟩
  ·subst hs
   have hnone : rdCall (l.drop at') = none:=by rw [List.drop_of_length_le (by omega)]; rfl
   rcases HN4.out with ⟨n1,n2,n3⟩ | ⟨n1,n2,n3⟩
   ·exact ⟨_,_,rd n3,.inl ⟨rfl,.inr hnone⟩⟩
   ·exact ⟨_,_,rd n3,.inl ⟨rfl,.inr hnone⟩⟩
  ·subst hs ha
   have hx:=(List.getElem?_eq_some_iff.1 hl).1
   have hd : l.drop at' = how :: l.drop (at' + 1):=by
    rw [List.drop_eq_getElem_cons hx]
    rw [List.getElem?_eq_getElem hx,Option.some.injEq] at hl
    rw [hl]
   rcases HN4.out with ⟨n1,n2,n3⟩ | ⟨n1,n2,n3⟩
   ·refine ⟨_,_,rd n3,.inl ⟨rfl,.inr ?_⟩⟩
    rw [hd,List.drop_of_length_le (by omega)]
    unfold rdCall
    dsimp only
    rw [if_neg h2]
   ·refine ⟨_,_,rd n3,.inr ⟨rfl,2, ?_,rfl⟩⟩
    have hy : at' + 1 < l.length:=by omega
    rw [hd,HCK.out,HCE.out,n2,List.drop_eq_getElem_cons hy]
    unfold rdCall
    dsimp only
    rw [if_neg h2]
    show some (how % 2,how / 2,(0 : Int),l[at' + 1],2) = some (how % 2,how / 2,(0 : Int),l[at' + 1] + 256 * un8 [],2)
    rw [show un8 [] = 0 from rfl,Int.mul_zero,Int.add_zero]
end
section
open Go.RowKit
theorem RdIn.other {w : World} {rb : Nat} {A : Option Addr} {l : List Int} {cap at' : Nat} {sh : Bool} (h : RdIn w rb A l cap at' sh) {b n : Nat} (i : Nat) (u : Value) (hb : b ≠ rb) (hn : n ≤ b) (ho : ∀ b off,A = some ⟨b,off,none⟩ → 0 < l.length → b < n) : RdIn (w.setCell ⟨b,i,none⟩ u) rb A l cap at' sh :=
 h.keep (T:=(· = b)) (Keep.setCell (T:=(· = b)) (Keep.refl _ _) ⟨b,i,none⟩ rfl u) (fun e=>hb e.symm) (fun b' off hA hp e=>by have:=ho b' off hA hp; omega)
structure MvAt (w wx : World) (rb mb ob : Nat) (A : Option Addr) (l : List Int) (cap at' : Nat) (m : CM) (a3 : Nat) (s3 : Bool) : Prop where
 keep : Keep (fun q=>q = rb) w wx
 rd : RdIn wx rb A l cap a3 s3
 obj : IsObj wx mb [i64 m.k,i64 m.who,i64 m.ck,i64 m.ce,u64 m.v,i64 m.st,i64 m.n]
 res : IsObj wx ob [i64 0,i64 0,i64 0,i64 0,u64 0,i64 0,i64 0]
 is : (s3 = true ∧ rdMove (l.drop at') = none) ∨ (s3 = false ∧ ∃ n,rdMove (l.drop at') = some (m,n) ∧ a3 = at' + n)
def MoveIs (w : World) (rb : Nat) (A : Option Addr) (l : List Int) (cap at' : Nat) (m : CM) (ok : Bool) (w' : World) : Prop :=
 Keep (· = rb) w w' ∧ ∃ a2 s2,RdIn w' rb A l cap a2 s2 ∧ ((ok = false ∧ ∀ (m' : CM) (r : List Int),m'.Good → l.drop at' ≠ m'.enc ++ r) ∨ (ok = true ∧ s2 = false ∧ m.Good ∧ ∃ r,l.drop at' = m.enc ++ r ∧ a2 = at' + m.enc.length))
theorem zGU (rb : Nat) (A : Option Addr) (l : List Int) (cap at' : Nat) (w : World) (h : RdIn w rb A l cap at' false) :
  Calls Tryz.prog 45 #[pt rb] w fun r w' => ∃ m ok,r = .returned (.tuple #[m.val,.bool ok]) ∧ MoveIs w rb A l cap at' m ok w':=by
 have hk0 : Keep (· = rb) w (w.alloc (.cells #[.int .i64 0,.int .i64 0,.int .i64 0,.int .i64 0,.int .u64 0,.int .i64 0,.int .i64 0] 50)):=Keep.of_below (zAA (Below.refl _ _) _)
 have H:=zIo (h.later (zAA (Below.refl _ _) (.cells #[.int .i64 0,.int .i64 0,.int .i64 0,.int .i64 0,.int .u64 0,.int .i64 0,.int .i64 0] 50)))
 have HK:=zIo hk0
 have HO:=zIo (IsObj.made w [.int .i64 0,.int .i64 0,.int .i64 0,.int .i64 0,.int .u64 0,.int .i64 0,.int .i64 0] 50)
 have HLT:=zIo h.obj.lt
 have HOLD:=zIo h.old
 have HBY:=zIo h.byt
 clear h hk0
 go_enter Tryz.func45,Tryz.ntmps45
 go_wp2_with fail
 generalize (w.alloc (.cells #[.int .i64 0,.int .i64 0,.int .i64 0,.int .i64 0,.int .u64 0,.int .i64 0,.int .i64 0] 50)) = w1 at H HK HO ⊢
 refine (zBN rb A l cap at' false _ H.out).mono ?_
 rintro r w2 ⟨k,rfl,hN⟩
 obtain ⟨k2,hN2⟩:=hN
 have hne : ∀ q,q = rb → q ≠ w.heap.size:=fun q hq=>by have:=HLT.out; omega
 have HK2:=zIo (HK.out.trans k2)
 have HO2:=zIo (HO.out.keep (T:=(· = rb)) k2 (fun e=>hne _ e rfl))
 have HNE:=zIo hne
 obtain ⟨a2,s2,hR,hW⟩ : ∃ a2 s2,RdIn w2 rb A l cap a2 s2 ∧ ((s2 = true ∧ l.drop at' = []) ∨ (s2 = false ∧ ∃ r,l.drop at' = k :: r ∧ l.drop (at' + 1) = r ∧ a2 = at' + 1)):=by
  rcases hN2 with ⟨h1,h2,h3⟩ | ⟨h1,h2,h3⟩
  ·exact ⟨_,_,h3,.inl ⟨rfl,List.drop_of_length_le (by omega)⟩⟩
  ·have hx : at' < l.length:=by omega
   refine ⟨_,_,h3,.inr ⟨rfl,l.drop (at' + 1), ?_,rfl,rfl⟩⟩
   rw [h2,List.drop_eq_getElem_cons hx]
   show l[at'] :: _ = (l[at'] + 256 * un8 []) :: _
   rw [show un8 [] = 0 from rfl,Int.mul_zero,Int.add_zero]
 have HR:=zIo hR
 have HW:=zIo hW
 clear hR hW hN2 k2 hne H HK HO
 have HC:=zIo (IsObj.made w2 [.int .i64 k,.int .i64 0,.int .i64 0,.int .i64 0,.int .u64 0,.int .i64 0,.int .i64 0] 50)
 have hbn:=zAA (Below.refl w2.heap.size w2) (.cells #[.int .i64 k,.int .i64 0,.int .i64 0,.int .i64 0,.int .u64 0,.int .i64 0,.int .i64 0] 50)
 have HR3:=zIo (HR.out.later hbn)
 have HO3:=zIo (HO2.out.later hbn)
 have HK3:=zIo (HK2.out.trans (Keep.of_below hbn))
 have HLT3:=zIo (show rb < w2.heap.size ∧ w.heap.size < w2.heap.size from ⟨HR.out.obj.lt,HO2.out.lt⟩)
 clear hbn HR HK2 HO2
 go_upto_block 0 with fail
 generalize (w2.alloc (.cells #[.int .i64 k,.int .i64 0,.int .i64 0,.int .i64 0,.int .u64 0,.int .i64 0,.int .i64 0] 50)) = w3 at HC HR3 HO3 HK3 ⊢
 go_cut [] (fun wx => ∃ (m : CM) (a3 : Nat) (s3 : Bool),Hid (MvAt w wx rb w2.heap.size w.heap.size A l cap at' m a3 s3))
 case first =>
  by_cases k0 : k = 0
  ·subst k0
   go_wp2_with fail
   refine (zBN rb A l cap a2 s2 _ HR3.out).mono ?_
   rintro r w4 ⟨who,rfl,k4,hN4⟩
   have HK4:=zIo (HK3.out.trans k4)
   have HO4:=zIo (HO3.out.keep (T:=(· = rb)) k4 (fun e=>HNE.out _ e rfl))
   have HC4:=zIo (HC.out.keep (T:=(· = rb)) k4 (fun e=>by have:=HLT3.out; omega))
   have HN4:=zIo hN4
   clear k4 hN4 HK3 HO3 HC HR3
   have f1:=HC4.out.fz 1
   have q1:=HC4.out.at' 1 _ rfl
   have hl1:=HC4.out.lt
   go_wp2_with fail
   have HC5:=zIo (HC4.out.set 1 (i64 who))
   have HO5:=zIo (HO4.out.other (a:=w2.heap.size) 1 (i64 who) (by have:=HLT3.out; omega))
   have HK5:=zIo (HK4.out.then' (T':=(· = w2.heap.size)) (Keep.setCell (T:=(· = w2.heap.size)) (Keep.refl _ _) ⟨w2.heap.size,1,none⟩ rfl (i64 who)) (fun i hi=>.inr (by have:=HLT3.out; omega)))
   obtain ⟨a5,s5,hR5,hW5⟩ : ∃ a5 s5,RdIn (w4.setCell ⟨w2.heap.size,1,none⟩ (i64 who)) rb A l cap a5 s5 ∧ ((s5 = true ∧ rdMove (l.drop at') = none) ∨ (s5 = false ∧ l.drop at' = 0 :: who :: l.drop a5 ∧ a5 = at' + 2)):=by
    have oth : ∀ {a s},RdIn w4 rb A l cap a s → RdIn (w4.setCell ⟨w2.heap.size,1,none⟩ (i64 who)) rb A l cap a s:=fun {a s} hr=>hr.other (n:=w.heap.size) 1 _ (by have:=HLT3.out; omega) (by have:=HLT3.out; omega) HOLD.out
    rcases HW.out with ⟨hs,hd⟩ | ⟨hs,r,hd,hr,ha⟩
    ·subst hs
     rcases HN4.out with ⟨n1,n2,n3⟩ | ⟨n1,n2,n3⟩
     ·exact ⟨_,_,oth n3,.inl ⟨rfl,by rw [hd]; rfl⟩⟩
     ·exact ⟨_,_,oth n3,.inl ⟨rfl,by rw [hd]; rfl⟩⟩
    ·subst hs ha
     rcases HN4.out with ⟨n1,n2,n3⟩ | ⟨n1,n2,n3⟩
     ·exact ⟨_,_,oth n3,.inl ⟨rfl,by rw [hd, ← hr,List.drop_of_length_le (by omega)]; rfl⟩⟩
     ·have hx : at' + 1 < l.length:=by omega
      refine ⟨_,_,oth n3,.inr ⟨rfl, ?_,rfl⟩⟩
      rw [hd, ← hr,n2,List.drop_eq_getElem_cons hx]
      show 0 :: l[at' + 1] :: _ = 0 :: (l[at' + 1] + 256 * un8 []) :: _
      rw [show un8 [] = 0 from rfl,Int.mul_zero,Int.add_zero]
   have HR5:=zIo hR5
   have HW5:=zIo hW5
   clear hR5 hW5 HC4 HO4 HK4 HN4 HW
   generalize (w4.setCell ⟨w2.heap.size,1,none⟩ (i64 who)) = w5 at HC5 HO5 HK5 HR5 ⊢
   refine (zFt rb A l cap a5 s5 _ HR5.out).mono ?_
   rintro r w6 ⟨ck,ce,v,s,rfl,k6,a6,s6,hR6,hN6⟩
   have HK6:=zIo (HK5.out.trans k6)
   have HO6:=zIo (HO5.out.keep (T:=(· = rb)) k6 (fun e=>HNE.out _ e rfl))
   have HC6:=zIo (HC5.out.keep (T:=(· = rb)) k6 (fun e=>by have:=HLT3.out; omega))
   have HR6:=zIo hR6
   have HN6:=zIo hN6
   clear k6 hR6 hN6 HK5 HO5 HC5 HR5
   have f2:=HC6.out.fz 2
   have f3:=HC6.out.fz 3
   have f4:=HC6.out.fz 4
   have f5:=HC6.out.fz 5
   have q2:=HC6.out.at' 2 _ rfl
   have q3:=HC6.out.at' 3 _ rfl
   have q4:=HC6.out.at' 4 _ rfl
   have q5:=HC6.out.at' 5 _ rfl
   go_wp2_with fail
   go_meet
   refine ⟨⟨0,who,ck,ce,v,s,0⟩,a6,s6,zIo ⟨?_, ?_, ?_, ?_, ?_⟩⟩
   ·exact HK6.out.then' (T':=(· = w2.heap.size)) (Keep.setCell (T:=(· = w2.heap.size)) (Keep.setCell (T:=(· = w2.heap.size)) (Keep.setCell (T:=(· = w2.heap.size)) (Keep.setCell (T:=(· = w2.heap.size)) (Keep.refl _ _) ⟨w2.heap.size,2,none⟩ rfl _) ⟨w2.heap.size,3,none⟩ rfl _) ⟨w2.heap.size,4,none⟩ rfl _) ⟨w2.heap.size,5,none⟩ rfl _) (fun i hi=>.inr (by have:=HLT3.out; omega))
   ·have e1 : w2.heap.size ≠ rb:=by have:=HLT3.out; omega
    have e2 : w.heap.size ≤ w2.heap.size:=by have:=HLT3.out; omega
    exact (((HR6.out.other (n:=w.heap.size) 2 _ e1 e2 HOLD.out).other (n:=w.heap.size) 3 _ e1 e2 HOLD.out).other (n:=w.heap.size) 4 _ e1 e2 HOLD.out).other (n:=w.heap.size) 5 _ e1 e2 HOLD.out
   ·exact ((((HC6.out.set 2 (i64 ck)).set 3 (i64 ce)).set 4 (u64 v)).set 5 (i64 s))
   ·have e3 : w2.heap.size ≠ w.heap.size:=by have:=HLT3.out; omega
    exact (((HO6.out.other (a:=w2.heap.size) 2 _ e3).other (a:=w2.heap.size) 3 _ e3).other (a:=w2.heap.size) 4 _ e3).other (a:=w2.heap.size) 5 _ e3
   ·rcases HW5.out with ⟨hs,hn⟩ | ⟨hs,hd,ha⟩
    ·subst hs
     rcases HN6.out with ⟨n1,_⟩ | ⟨n1,_⟩
     ·exact .inl ⟨n1,hn⟩
     ·exact .inl ⟨n1,hn⟩
    ·subst hs ha
     rcases HN6.out with ⟨n1,n2⟩ | ⟨n1,n,n2,n3⟩
     ·refine .inl ⟨n1, ?_⟩
      rcases n2 with n2 | n2
      ·cases n2
      ·rw [hd]
       show (match rdCall (l.drop (at' + 2)) with
        | none=>none
        | some (ck,ce,v,s,n)=>some ((⟨0,who,ck,ce,v,s,0⟩ : CM),n + 2)) = none
       rw [n2]
     ·refine .inr ⟨n1,n + 2, ?_,by omega⟩
      rw [hd]
      show (match rdCall (l.drop (at' + 2)) with
       | none=>none
       | some (ck,ce,v,s,n)=>some ((⟨0,who,ck,ce,v,s,0⟩ : CM),n + 2)) = _
      rw [n2]
  ·have p0 : (k == 0) = false:=beq_false_of_ne k0
   by_cases k1 : k = 1
   ·subst k1
    clear p0
    go_wp2_with fail
    refine (zBN rb A l cap a2 s2 _ HR3.out).mono ?_
    rintro r w4 ⟨who,rfl,k4,hN4⟩
    have HK4:=zIo (HK3.out.trans k4)
    have HO4:=zIo (HO3.out.keep (T:=(· = rb)) k4 (fun e=>HNE.out _ e rfl))
    have HC4:=zIo (HC.out.keep (T:=(· = rb)) k4 (fun e=>by have:=HLT3.out; omega))
    have HN4:=zIo hN4
    clear k4 hN4 HK3 HO3 HC HR3
    have f1:=HC4.out.fz 1
    have q1:=HC4.out.at' 1 _ rfl
    have hl1:=HC4.out.lt
    go_wp2_with fail
    go_meet
    have oth : ∀ {a s},RdIn w4 rb A l cap a s → RdIn (w4.setCell ⟨w2.heap.size,1,none⟩ (i64 who)) rb A l cap a s:=fun {a s} hr=>hr.other (n:=w.heap.size) 1 _ (by have:=HLT3.out; omega) (by have:=HLT3.out; omega) HOLD.out
    have hK5:=HK4.out.then' (T':=(· = w2.heap.size)) (Keep.setCell (T:=(· = w2.heap.size)) (Keep.refl _ _) ⟨w2.heap.size,1,none⟩ rfl (i64 who)) (fun i hi=>.inr (by have:=HLT3.out; omega))
    have hC5:=HC4.out.set 1 (i64 who)
    have hO5:=HO4.out.other (a:=w2.heap.size) 1 (i64 who) (by have:=HLT3.out; omega)
    rcases HW.out with ⟨hs,hd⟩ | ⟨hs,r,hd,hr,ha⟩
    ·subst hs
     rcases HN4.out with ⟨n1,n2,n3⟩ | ⟨n1,n2,n3⟩
     ·exact ⟨⟨1,who,0,0,0,0,0⟩,_,_,zIo ⟨hK5,oth n3,hC5,hO5,.inl ⟨rfl,by rw [hd]; rfl⟩⟩⟩
     ·exact ⟨⟨1,who,0,0,0,0,0⟩,_,_,zIo ⟨hK5,oth n3,hC5,hO5,.inl ⟨rfl,by rw [hd]; rfl⟩⟩⟩
    ·subst hs ha
     rcases HN4.out with ⟨n1,n2,n3⟩ | ⟨n1,n2,n3⟩
     ·refine ⟨⟨1,who,0,0,0,0,0⟩,_,_,zIo ⟨hK5,oth n3,hC5,hO5,.inl ⟨rfl, ?_⟩⟩⟩
      rw [hd, ← hr,List.drop_of_length_le (by omega)]
      rfl
     ·refine ⟨⟨1,who,0,0,0,0,0⟩,_,_,zIo ⟨hK5,oth n3,hC5,hO5,.inr ⟨rfl,2, ?_,by omega⟩⟩⟩
      have hx : at' + 1 < l.length:=by omega
      rw [hd, ← hr,n2,List.drop_eq_getElem_cons hx]
      show some ((⟨1,l[at' + 1],0,0,0,0,0⟩ : CM),2) = some ((⟨1,l[at' + 1] + 256 * un8 [],0,0,0,0,0⟩ : CM),2)
      rw [show un8 [] = 0 from rfl,Int.mul_zero,Int.add_zero]
   ·have p1 : (k == 1) = false:=beq_false_of_ne k1
    by_cases k2 : k = 2
    ·subst k2
     clear p0 p1
     go_wp2_with fail
     refine (zB7 rb A l cap a2 2 s2 _ HR3.out (by decide)).mono ?_
     rintro r w4 ⟨who,rfl,k4,hN4⟩
     have hw64 : IntKind.i64.wrap who = who:=by
      rcases hN4 with ⟨_,rfl,_⟩ | ⟨n1,n2,_⟩
      ·rfl
      ·have h1:=zFl HBY.out a2 2 n1
       rw [← n2,show (256 : Int) ^ 2 = 65536 by decide] at h1
       exact IntWalk.i64_in _ (by omega)
     have HK4:=zIo (HK3.out.trans k4)
     have HO4:=zIo (HO3.out.keep (T:=(· = rb)) k4 (fun e=>HNE.out _ e rfl))
     have HC4:=zIo (HC.out.keep (T:=(· = rb)) k4 (fun e=>by have:=HLT3.out; omega))
     have HN4:=zIo hN4
     clear k4 hN4 HK3 HO3 HC HR3
     have f1:=HC4.out.fz 6
     have q1:=HC4.out.at' 6 _ rfl
     have hl1:=HC4.out.lt
     go_wp2_with fail
     go_meet
     have oth : ∀ {a s},RdIn w4 rb A l cap a s → RdIn (w4.setCell ⟨w2.heap.size,6,none⟩ (i64 who)) rb A l cap a s:=fun {a s} hr=>hr.other (n:=w.heap.size) 6 _ (by have:=HLT3.out; omega) (by have:=HLT3.out; omega) HOLD.out
     have hK5:=HK4.out.then' (T':=(· = w2.heap.size)) (Keep.setCell (T:=(· = w2.heap.size)) (Keep.refl _ _) ⟨w2.heap.size,6,none⟩ rfl (i64 who)) (fun i hi=>.inr (by have:=HLT3.out; omega))
     have hC5:=HC4.out.set 6 (i64 who)
     have hO5:=HO4.out.other (a:=w2.heap.size) 6 (i64 who) (by have:=HLT3.out; omega)
     rcases HW.out with ⟨hs,hd⟩ | ⟨hs,r,hd,hr,ha⟩
     ·subst hs
      rcases HN4.out with ⟨n1,n2,n3⟩ | ⟨n1,n2,n3⟩
      ·exact ⟨⟨2,0,0,0,0,0,who⟩,_,_,zIo ⟨hK5,oth n3,hC5,hO5,.inl ⟨rfl,by rw [hd]; rfl⟩⟩⟩
      ·exact ⟨⟨2,0,0,0,0,0,who⟩,_,_,zIo ⟨hK5,oth n3,hC5,hO5,.inl ⟨rfl,by rw [hd]; rfl⟩⟩⟩
     ·subst hs ha
      rcases HN4.out with ⟨n1,n2,n3⟩ | ⟨n1,n2,n3⟩
      ·refine ⟨⟨2,0,0,0,0,0,who⟩,_,_,zIo ⟨hK5,oth n3,hC5,hO5,.inl ⟨rfl, ?_⟩⟩⟩
       rw [hd, ← hr]
       show (if 2 ≤ (l.drop (at' + 1)).length then some ((⟨2,0,0,0,0,0,un8 ((l.drop (at' + 1)).take 2)⟩ : CM),3) else none) = none
       rw [if_neg (by rw [List.length_drop]; omega)]
      ·refine ⟨⟨2,0,0,0,0,0,who⟩,_,_,zIo ⟨hK5,oth n3,hC5,hO5,.inr ⟨rfl,3, ?_,by omega⟩⟩⟩
       rw [hd, ← hr,n2]
       show (if 2 ≤ (l.drop (at' + 1)).length then some ((⟨2,0,0,0,0,0,un8 ((l.drop (at' + 1)).take 2)⟩ : CM),3) else none) = _
       rw [if_pos (by rw [List.length_drop]; omega)]
    ·have p2 : (k == 2) = false:=beq_false_of_ne k2
     have K0:=zIo (show ¬ k = 0 ∧ ¬ k = 1 ∧ ¬ k = 2 from ⟨k0,k1,k2⟩)
     clear k0 k1 k2
     go_wp2_with fail
     go_meet
     refine ⟨⟨k,0,0,0,0,0,0⟩,a2,s2,zIo ⟨HK3.out,HR3.out,HC.out,HO3.out, ?_⟩⟩
     rcases HW.out with ⟨hs,hd⟩ | ⟨hs,r,hd,hr,ha⟩
     ·exact .inl ⟨hs,by rw [hd]; rfl⟩
     ·refine .inr ⟨hs,1, ?_,ha⟩
      rw [hd]
      obtain ⟨e0,e1,e2⟩:=K0.out
      unfold rdMove
      dsimp only
      rw [if_neg e0,if_neg e1,if_neg e2]
 case rest =>
  clear HC HR3 HO3 HK3 HW
  obtain ⟨m,a3,s3,HM⟩:=hcut
  have hc : ∀ wx,MvAt w wx rb w2.heap.size w.heap.size A l cap at' m a3 s3 → wx.cell? ⟨w2.heap.size,0,none⟩ = some (i64 m.k) ∧ wx.cell? ⟨w2.heap.size,1,none⟩ = some (i64 m.who) ∧ wx.cell? ⟨w2.heap.size,2,none⟩ = some (i64 m.ck) ∧ wx.cell? ⟨w2.heap.size,3,none⟩ = some (i64 m.ce) ∧ wx.cell? ⟨w2.heap.size,4,none⟩ = some (u64 m.v) ∧ wx.cell? ⟨w2.heap.size,5,none⟩ = some (i64 m.st) ∧ wx.cell? ⟨w2.heap.size,6,none⟩ = some (i64 m.n) ∧ wx.cell? ⟨rb,2,none⟩ = some (.bool s3):=fun wx h =>
   ⟨h.obj.at' 0 _ rfl,h.obj.at' 1 _ rfl,h.obj.at' 2 _ rfl,h.obj.at' 3 _ rfl,h.obj.at' 4 _ rfl,h.obj.at' 5 _ rfl,h.obj.at' 6 _ rfl,h.rd.obj.at' 2 _ rfl⟩
  have later : ∀ wx,Below wc.heap.size wc wx → MvAt w wx rb w2.heap.size w.heap.size A l cap at' m a3 s3:=fun wx hb=>⟨HM.out.keep.trans (Keep.of_below hb),HM.out.rd.later hb,HM.out.obj.later hb,HM.out.res.later hb,HM.out.is⟩
  have HC:=zIo hc
  have HL:=zIo later
  clear hc later
  go_wp2_with fail
  cases s3 with
  | true =>
   refine zAD ((fun wx=>wx.cell? ⟨w2.heap.size,0,none⟩ = some (i64 m.k) ∧ wx.cell? ⟨w2.heap.size,1,none⟩ = some (i64 m.who) ∧ wx.cell? ⟨w2.heap.size,2,none⟩ = some (i64 m.ck) ∧ wx.cell? ⟨w2.heap.size,3,none⟩ = some (i64 m.ce) ∧ wx.cell? ⟨w2.heap.size,4,none⟩ = some (u64 m.v) ∧ wx.cell? ⟨w2.heap.size,5,none⟩ = some (i64 m.st) ∧ wx.cell? ⟨w2.heap.size,6,none⟩ = some (i64 m.n) ∧ wx.cell? ⟨rb,2,none⟩ = some (.bool true))) ((0,true) :: (1,true) :: (2,true) :: (3,true) :: (4,true) :: (5,true) :: (6,true) :: (7,true) :: (8,false) :: (9,true) :: (10,false) :: (11,true) :: []) (by kernel_rfl) (by kernel_rfl) (by kernel_rfl) (by decide) (fun _ _ _ _ _ h=>h) (HC.out _ (HL.out _ (Below.refl _ _).drew)) ?_
   have HBL:=zIo (Below.refl wc.heap.size wc).drew
   generalize wc.drew = wb at HBL ⊢
   repeat ((first | (refine zAC (v := ?_) rfl ?_ ?_ ?_; rotate_left 1; rfl; focus (rintro wS ⟨c0,c1,c2,c3,c4,c5,c6,d2⟩; go_simp <;> with_reducible rfl)) | (refine zAB rfl ?_ ?_; rfl)); try simp only [Act.put,qset])
   refine zAH rfl (fun K hK=>?_)
   go_simp
   refine hK.out _ _ (HC.out _ (HL.out _ HBL.out)) (fun _=>?_)
   (try simp only [Act.put,qset])
   clear hK K
   repeat ((first | (refine zAC (v := ?_) rfl ?_ ?_ ?_; rotate_left 1; rfl; focus (rintro wS ⟨c0,c1,c2,c3,c4,c5,c6,d2⟩; go_simp <;> with_reducible rfl)) | (refine zAB rfl ?_ ?_; rfl)); try simp only [Act.put,qset])
   have HR0:=zIo (HL.out _ HBL.out).res
   have oo:=HR0.out
   have o0:=oo.at' 0 _ rfl
   have o1:=oo.at' 1 _ rfl
   have o2:=oo.at' 2 _ rfl
   have o3:=oo.at' 3 _ rfl
   have o4:=oo.at' 4 _ rfl
   have o5:=oo.at' 5 _ rfl
   have o6:=oo.at' 6 _ rfl
   have g0:=oo.fz 0
   have g1:=oo.fz 1
   have g2:=oo.fz 2
   have g3:=oo.fz 3
   have g4:=oo.fz 4
   have g5:=oo.fz 5
   have g6:=oo.fz 6
   have hne1 : w.heap.size ≠ w2.heap.size:=by have:=HLT3.out; omega
   have hne2 : w.heap.size ≠ rb:=by have:=HLT.out; omega
   clear oo
   refine zAH rfl (fun K hK=>?_)
   go_simp
   have hk5 : Keep (· = w.heap.size) wb (((((((wb.setCell ⟨w.heap.size,0,none⟩ (i64 m.k)).setCell ⟨w.heap.size,1,none⟩ (i64 m.who)).setCell ⟨w.heap.size,2,none⟩ (i64 m.ck)).setCell ⟨w.heap.size,3,none⟩ (i64 m.ce)).setCell ⟨w.heap.size,4,none⟩ (u64 m.v)).setCell ⟨w.heap.size,5,none⟩ (i64 m.st)).setCell ⟨w.heap.size,6,none⟩ (i64 m.n)) :=
    Keep.setCell (T:=(· = w.heap.size)) (Keep.setCell (T:=(· = w.heap.size)) (Keep.setCell (T:=(· = w.heap.size)) (Keep.setCell (T:=(· = w.heap.size)) (Keep.setCell (T:=(· = w.heap.size)) (Keep.setCell (T:=(· = w.heap.size)) (Keep.setCell (T:=(· = w.heap.size)) (Keep.refl _ _) ⟨w.heap.size,0,none⟩ rfl _) ⟨w.heap.size,1,none⟩ rfl _) ⟨w.heap.size,2,none⟩ rfl _) ⟨w.heap.size,3,none⟩ rfl _) ⟨w.heap.size,4,none⟩ rfl _) ⟨w.heap.size,5,none⟩ rfl _) ⟨w.heap.size,6,none⟩ rfl _
   have ho5:=(((((((HR0.out.set 0 (i64 m.k)).set 1 (i64 m.who)).set 2 (i64 m.ck)).set 3 (i64 m.ce)).set 4 (u64 m.v)).set 5 (i64 m.st)).set 6 (i64 m.n))
   generalize (((((((wb.setCell ⟨w.heap.size,0,none⟩ (i64 m.k)).setCell ⟨w.heap.size,1,none⟩ (i64 m.who)).setCell ⟨w.heap.size,2,none⟩ (i64 m.ck)).setCell ⟨w.heap.size,3,none⟩ (i64 m.ce)).setCell ⟨w.heap.size,4,none⟩ (u64 m.v)).setCell ⟨w.heap.size,5,none⟩ (i64 m.st)).setCell ⟨w.heap.size,6,none⟩ (i64 m.n)) = w5 at hk5 ho5 ⊢
   have HO5:=zIo ho5
   have HK5:=zIo hk5
   have hrd:=(HL.out _ HBL.out).rd.keep hk5 (fun e=>hne2 e.symm) (fun b off hA hp e=>by have:=HOLD.out b off hA hp; omega)
   have hob:=(HL.out _ HBL.out).obj.keep hk5 (fun e=>hne1 e.symm)
   have HRD:=zIo hrd
   have HS5:=zIo (show _ ∧ _ ∧ _ ∧ _ ∧ _ ∧ _ ∧ _ ∧ _ from ⟨hob.at' 0 _ rfl,hob.at' 1 _ rfl,hob.at' 2 _ rfl,hob.at' 3 _ rfl,hob.at' 4 _ rfl,hob.at' 5 _ rfl,hob.at' 6 _ rfl,hrd.obj.at' 2 _ rfl⟩)
   clear hk5 ho5 hrd hob o0 o1 o2 o3 o4 o5 o6 g0 g1 g2 g3 g4 g5 g6
   refine hK.out _ _ (HS5.out) (fun _=>?_)
   (try simp only [Act.put,qset])
   clear hK K
   repeat ((first | (refine zAC (v := ?_) rfl ?_ ?_ ?_; rotate_left 1; rfl; focus (rintro wS ⟨c0,c1,c2,c3,c4,c5,c6,d2⟩; go_simp <;> with_reducible rfl)) | (refine zAB rfl ?_ ?_; rfl)); try simp only [Act.put,qset])
   refine zAJ ?_
   go_wp2_with fail
   have r0:=HO5.out.at' 0 _ rfl
   have r1:=HO5.out.at' 1 _ rfl
   have r2:=HO5.out.at' 2 _ rfl
   have r3:=HO5.out.at' 3 _ rfl
   have r4:=HO5.out.at' 4 _ rfl
   have r5:=HO5.out.at' 5 _ rfl
   have r6:=HO5.out.at' 6 _ rfl
   refine bodyPost_ret (v:=.tuple #[m.val,.bool false]) (by simp [results,Tryz.results45,go_sem,r0,r1,r2,r3,r4,r5,r6]) rfl ⟨m,false,rfl,(HL.out _ HBL.out).keep.then' HK5.out (fun i hi=>.inr (by omega)),a3,_,HRD.out, ?_⟩
   rcases HM.out.is with ⟨_,hn⟩ | ⟨hn,_⟩
   ·refine .inl ⟨rfl,fun m' r hg he=>?_⟩
    rw [he,zCp hg] at hn
    cases hn
   ·cases hn
  | false =>
   by_cases hmr : m.Right
   case pos =>
    have HMR:=zIo hmr
    have hdec : decide m.Right = true:=decide_eq_true hmr
    clear hmr
    refine zAD ((fun wx=>wx.cell? ⟨w2.heap.size,0,none⟩ = some (i64 m.k) ∧ wx.cell? ⟨w2.heap.size,1,none⟩ = some (i64 m.who) ∧ wx.cell? ⟨w2.heap.size,2,none⟩ = some (i64 m.ck) ∧ wx.cell? ⟨w2.heap.size,3,none⟩ = some (i64 m.ce) ∧ wx.cell? ⟨w2.heap.size,4,none⟩ = some (u64 m.v) ∧ wx.cell? ⟨w2.heap.size,5,none⟩ = some (i64 m.st) ∧ wx.cell? ⟨w2.heap.size,6,none⟩ = some (i64 m.n) ∧ wx.cell? ⟨rb,2,none⟩ = some (.bool false))) ((0,true) :: (1,true) :: (2,true) :: (3,true) :: (4,true) :: (5,true) :: (6,true) :: (7,true) :: (8,false) :: (9,true) :: (10,false) :: (11,true) :: []) (by kernel_rfl) (by kernel_rfl) (by kernel_rfl) (by decide) (fun _ _ _ _ _ h=>h) (HC.out _ (HL.out _ (Below.refl _ _).drew)) ?_
    repeat ((first | (refine zAC (v := ?_) rfl ?_ ?_ ?_; rotate_left 1; rfl; focus (rintro wS ⟨c0,c1,c2,c3,c4,c5,c6,d2⟩; go_simp <;> with_reducible rfl)) | (refine zAB rfl ?_ ?_; rfl)); try simp only [Act.put,qset])
    refine zAH rfl (fun K hK=>?_)
    go_simp
    go_at_call 16
    refine (zAV m _).mono ?_
    rintro r wb ⟨rfl,hb⟩
    (try go_wp2_with fail)
    have HBL:=zIo (zAE (Below.refl wc.heap.size wc).drew hb)
    clear hb
    refine hK.out _ _ (HC.out _ (HL.out _ HBL.out)) (fun _=>?_)
    (try simp only [Act.put,qset])
    clear hK K
    repeat ((first | (refine zAC (v := ?_) rfl ?_ ?_ ?_; rotate_left 1; rfl; focus (rintro wS ⟨c0,c1,c2,c3,c4,c5,c6,d2⟩; go_simp <;> with_reducible rfl)) | (refine zAB rfl ?_ ?_; rfl)); try simp only [Act.put,qset])
    have HR0:=zIo (HL.out _ HBL.out).res
    have oo:=HR0.out
    have o0:=oo.at' 0 _ rfl
    have o1:=oo.at' 1 _ rfl
    have o2:=oo.at' 2 _ rfl
    have o3:=oo.at' 3 _ rfl
    have o4:=oo.at' 4 _ rfl
    have o5:=oo.at' 5 _ rfl
    have o6:=oo.at' 6 _ rfl
    have g0:=oo.fz 0
    have g1:=oo.fz 1
    have g2:=oo.fz 2
    have g3:=oo.fz 3
    have g4:=oo.fz 4
    have g5:=oo.fz 5
    have g6:=oo.fz 6
    have hne1 : w.heap.size ≠ w2.heap.size:=by have:=HLT3.out; omega
    have hne2 : w.heap.size ≠ rb:=by have:=HLT.out; omega
    clear oo
    refine zAH rfl (fun K hK=>?_)
    go_simp
    have hk5 : Keep (· = w.heap.size) wb (((((((wb.setCell ⟨w.heap.size,0,none⟩ (i64 m.k)).setCell ⟨w.heap.size,1,none⟩ (i64 m.who)).setCell ⟨w.heap.size,2,none⟩ (i64 m.ck)).setCell ⟨w.heap.size,3,none⟩ (i64 m.ce)).setCell ⟨w.heap.size,4,none⟩ (u64 m.v)).setCell ⟨w.heap.size,5,none⟩ (i64 m.st)).setCell ⟨w.heap.size,6,none⟩ (i64 m.n)) :=
     Keep.setCell (T:=(· = w.heap.size)) (Keep.setCell (T:=(· = w.heap.size)) (Keep.setCell (T:=(· = w.heap.size)) (Keep.setCell (T:=(· = w.heap.size)) (Keep.setCell (T:=(· = w.heap.size)) (Keep.setCell (T:=(· = w.heap.size)) (Keep.setCell (T:=(· = w.heap.size)) (Keep.refl _ _) ⟨w.heap.size,0,none⟩ rfl _) ⟨w.heap.size,1,none⟩ rfl _) ⟨w.heap.size,2,none⟩ rfl _) ⟨w.heap.size,3,none⟩ rfl _) ⟨w.heap.size,4,none⟩ rfl _) ⟨w.heap.size,5,none⟩ rfl _) ⟨w.heap.size,6,none⟩ rfl _
    have ho5:=(((((((HR0.out.set 0 (i64 m.k)).set 1 (i64 m.who)).set 2 (i64 m.ck)).set 3 (i64 m.ce)).set 4 (u64 m.v)).set 5 (i64 m.st)).set 6 (i64 m.n))
    generalize (((((((wb.setCell ⟨w.heap.size,0,none⟩ (i64 m.k)).setCell ⟨w.heap.size,1,none⟩ (i64 m.who)).setCell ⟨w.heap.size,2,none⟩ (i64 m.ck)).setCell ⟨w.heap.size,3,none⟩ (i64 m.ce)).setCell ⟨w.heap.size,4,none⟩ (u64 m.v)).setCell ⟨w.heap.size,5,none⟩ (i64 m.st)).setCell ⟨w.heap.size,6,none⟩ (i64 m.n)) = w5 at hk5 ho5 ⊢
    have HO5:=zIo ho5
    have HK5:=zIo hk5
    have hrd:=(HL.out _ HBL.out).rd.keep hk5 (fun e=>hne2 e.symm) (fun b off hA hp e=>by have:=HOLD.out b off hA hp; omega)
    have hob:=(HL.out _ HBL.out).obj.keep hk5 (fun e=>hne1 e.symm)
    have HRD:=zIo hrd
    have HS5:=zIo (show _ ∧ _ ∧ _ ∧ _ ∧ _ ∧ _ ∧ _ ∧ _ from ⟨hob.at' 0 _ rfl,hob.at' 1 _ rfl,hob.at' 2 _ rfl,hob.at' 3 _ rfl,hob.at' 4 _ rfl,hob.at' 5 _ rfl,hob.at' 6 _ rfl,hrd.obj.at' 2 _ rfl⟩)
    clear hk5 ho5 hrd hob o0 o1 o2 o3 o4 o5 o6 g0 g1 g2 g3 g4 g5 g6
    refine hK.out _ _ (HS5.out) (fun _=>?_)
    (try simp only [Act.put,qset])
    clear hK K
    repeat ((first | (refine zAC (v := ?_) rfl ?_ ?_ ?_; rotate_left 1; rfl; focus (rintro wS ⟨c0,c1,c2,c3,c4,c5,c6,d2⟩; go_simp <;> with_reducible rfl)) | (refine zAB rfl ?_ ?_; rfl)); try simp only [Act.put,qset])
    refine zAJ ?_
    go_wp2_with fail
    have r0:=HO5.out.at' 0 _ rfl
    have r1:=HO5.out.at' 1 _ rfl
    have r2:=HO5.out.at' 2 _ rfl
    have r3:=HO5.out.at' 3 _ rfl
    have r4:=HO5.out.at' 4 _ rfl
    have r5:=HO5.out.at' 5 _ rfl
    have r6:=HO5.out.at' 6 _ rfl
    refine bodyPost_ret (v:=.tuple #[m.val,.bool true]) (by simp [results,Tryz.results45,go_sem,r0,r1,r2,r3,r4,r5,r6]) rfl ⟨m,true,rfl,(HL.out _ HBL.out).keep.then' HK5.out (fun i hi=>.inr (by omega)),a3,_,HRD.out, ?_⟩
    rcases HM.out.is with ⟨hn,_⟩ | ⟨_,n,hn,ha⟩
    ·cases hn
    ·obtain ⟨g1,r,g2,g3⟩:=zFa (fun b hb=>HBY.out b (List.mem_of_mem_drop hb)) hn HMR.out
     exact .inr ⟨rfl,rfl,g1,r,g2,by omega⟩
   case neg =>
    have HMR:=zIo hmr
    have hdec : decide m.Right = false:=decide_eq_false hmr
    clear hmr
    refine zAD ((fun wx=>wx.cell? ⟨w2.heap.size,0,none⟩ = some (i64 m.k) ∧ wx.cell? ⟨w2.heap.size,1,none⟩ = some (i64 m.who) ∧ wx.cell? ⟨w2.heap.size,2,none⟩ = some (i64 m.ck) ∧ wx.cell? ⟨w2.heap.size,3,none⟩ = some (i64 m.ce) ∧ wx.cell? ⟨w2.heap.size,4,none⟩ = some (u64 m.v) ∧ wx.cell? ⟨w2.heap.size,5,none⟩ = some (i64 m.st) ∧ wx.cell? ⟨w2.heap.size,6,none⟩ = some (i64 m.n) ∧ wx.cell? ⟨rb,2,none⟩ = some (.bool false))) ((0,true) :: (1,true) :: (2,true) :: (3,true) :: (4,true) :: (5,true) :: (6,true) :: (7,true) :: (8,false) :: (9,true) :: (10,false) :: (11,true) :: []) (by kernel_rfl) (by kernel_rfl) (by kernel_rfl) (by decide) (fun _ _ _ _ _ h=>h) (HC.out _ (HL.out _ (Below.refl _ _).drew)) ?_
    repeat ((first | (refine zAC (v := ?_) rfl ?_ ?_ ?_; rotate_left 1; rfl; focus (rintro wS ⟨c0,c1,c2,c3,c4,c5,c6,d2⟩; go_simp <;> with_reducible rfl)) | (refine zAB rfl ?_ ?_; rfl)); try simp only [Act.put,qset])
    refine zAH rfl (fun K hK=>?_)
    go_simp
    go_at_call 16
    refine (zAV m _).mono ?_
    rintro r wb ⟨rfl,hb⟩
    (try go_wp2_with fail)
    have HBL:=zIo (zAE (Below.refl wc.heap.size wc).drew hb)
    clear hb
    refine hK.out _ _ (HC.out _ (HL.out _ HBL.out)) (fun _=>?_)
    (try simp only [Act.put,qset])
    clear hK K
    repeat ((first | (refine zAC (v := ?_) rfl ?_ ?_ ?_; rotate_left 1; rfl; focus (rintro wS ⟨c0,c1,c2,c3,c4,c5,c6,d2⟩; go_simp <;> with_reducible rfl)) | (refine zAB rfl ?_ ?_; rfl)); try simp only [Act.put,qset])
    have HR0:=zIo (HL.out _ HBL.out).res
    have oo:=HR0.out
    have o0:=oo.at' 0 _ rfl
    have o1:=oo.at' 1 _ rfl
    have o2:=oo.at' 2 _ rfl
    have o3:=oo.at' 3 _ rfl
    have o4:=oo.at' 4 _ rfl
    have o5:=oo.at' 5 _ rfl
    have o6:=oo.at' 6 _ rfl
    have g0:=oo.fz 0
    have g1:=oo.fz 1
    have g2:=oo.fz 2
    have g3:=oo.fz 3
    have g4:=oo.fz 4
    have g5:=oo.fz 5
    have g6:=oo.fz 6
    have hne1 : w.heap.size ≠ w2.heap.size:=by have:=HLT3.out; omega
    have hne2 : w.heap.size ≠ rb:=by have:=HLT.out; omega
    clear oo
    refine zAH rfl (fun K hK=>?_)
    go_simp
    have hk5 : Keep (· = w.heap.size) wb (((((((wb.setCell ⟨w.heap.size,0,none⟩ (i64 m.k)).setCell ⟨w.heap.size,1,none⟩ (i64 m.who)).setCell ⟨w.heap.size,2,none⟩ (i64 m.ck)).setCell ⟨w.heap.size,3,none⟩ (i64 m.ce)).setCell ⟨w.heap.size,4,none⟩ (u64 m.v)).setCell ⟨w.heap.size,5,none⟩ (i64 m.st)).setCell ⟨w.heap.size,6,none⟩ (i64 m.n)) :=
     Keep.setCell (T:=(· = w.heap.size)) (Keep.setCell (T:=(· = w.heap.size)) (Keep.setCell (T:=(· = w.heap.size)) (Keep.setCell (T:=(· = w.heap.size)) (Keep.setCell (T:=(· = w.heap.size)) (Keep.setCell (T:=(· = w.heap.size)) (Keep.setCell (T:=(· = w.heap.size)) (Keep.refl _ _) ⟨w.heap.size,0,none⟩ rfl _) ⟨w.heap.size,1,none⟩ rfl _) ⟨w.heap.size,2,none⟩ rfl _) ⟨w.heap.size,3,none⟩ rfl _) ⟨w.heap.size,4,none⟩ rfl _) ⟨w.heap.size,5,none⟩ rfl _) ⟨w.heap.size,6,none⟩ rfl _
    have ho5:=(((((((HR0.out.set 0 (i64 m.k)).set 1 (i64 m.who)).set 2 (i64 m.ck)).set 3 (i64 m.ce)).set 4 (u64 m.v)).set 5 (i64 m.st)).set 6 (i64 m.n))
    generalize (((((((wb.setCell ⟨w.heap.size,0,none⟩ (i64 m.k)).setCell ⟨w.heap.size,1,none⟩ (i64 m.who)).setCell ⟨w.heap.size,2,none⟩ (i64 m.ck)).setCell ⟨w.heap.size,3,none⟩ (i64 m.ce)).setCell ⟨w.heap.size,4,none⟩ (u64 m.v)).setCell ⟨w.heap.size,5,none⟩ (i64 m.st)).setCell ⟨w.heap.size,6,none⟩ (i64 m.n)) = w5 at hk5 ho5 ⊢
    have HO5:=zIo ho5
    have HK5:=zIo hk5
    have hrd:=(HL.out _ HBL.out).rd.keep hk5 (fun e=>hne2 e.symm) (fun b off hA hp e=>by have:=HOLD.out b off hA hp; omega)
    have hob:=(HL.out _ HBL.out).obj.keep hk5 (fun e=>hne1 e.symm)
    have HRD:=zIo hrd
    have HS5:=zIo (show _ ∧ _ ∧ _ ∧ _ ∧ _ ∧ _ ∧ _ ∧ _ from ⟨hob.at' 0 _ rfl,hob.at' 1 _ rfl,hob.at' 2 _ rfl,hob.at' 3 _ rfl,hob.at' 4 _ rfl,hob.at' 5 _ rfl,hob.at' 6 _ rfl,hrd.obj.at' 2 _ rfl⟩)
    clear hk5 ho5 hrd hob o0 o1 o2 o3 o4 o5 o6 g0 g1 g2 g3 g4 g5 g6
    refine hK.out _ _ (HS5.out) (fun _=>?_)
    (try simp only [Act.put,qset])
    clear hK K
    repeat ((first | (refine zAC (v := ?_) rfl ?_ ?_ ?_; rotate_left 1; rfl; focus (rintro wS ⟨c0,c1,c2,c3,c4,c5,c6,d2⟩; go_simp <;> with_reducible rfl)) | (refine zAB rfl ?_ ?_; rfl)); try simp only [Act.put,qset])
    refine zAJ ?_
    go_wp2_with fail
    have r0:=HO5.out.at' 0 _ rfl
    have r1:=HO5.out.at' 1 _ rfl
    have r2:=HO5.out.at' 2 _ rfl
    have r3:=HO5.out.at' 3 _ rfl
    have r4:=HO5.out.at' 4 _ rfl
    have r5:=HO5.out.at' 5 _ rfl
    have r6:=HO5.out.at' 6 _ rfl
    refine bodyPost_ret (v:=.tuple #[m.val,.bool false]) (by simp [results,Tryz.results45,go_sem,r0,r1,r2,r3,r4,r5,r6]) rfl ⟨m,false,rfl,(HL.out _ HBL.out).keep.then' HK5.out (fun i hi=>.inr (by omega)),a3,_,HRD.out, ?_⟩
    rcases HM.out.is with ⟨hn,_⟩ | ⟨_,n,hn,ha⟩
    ·cases hn
    ·refine .inl ⟨rfl,fun m' r hg he=>?_⟩
     rw [he,zCp hg,Option.some.injEq,Prod.mk.injEq] at hn
     rw [hn.1] at hg
     exact HMR.out hg.1
end
section
open Go.RowKit
theorem Hold.cdSet {W w : World} {l : List Thing} {b : Nat} {xs : List Value} (h : Hold W w l) (i : Nat) (hi : l[i]? = some (tObj W.heap.size b xs)) (j : Nat) (u : Value) : Hold W (w.setCell ⟨b,j,none⟩ u) (l.set i (tObj W.heap.size b (xs.set j u))):=by
 have ho : IsObj w b xs ∧ W.heap.size ≤ b:=h.has i _ hi
 exact h.turn i hi (Keep.setCell (T:=fun q=>q = b) (Keep.refl _ _) ⟨b,j,none⟩ rfl u) (zAP _ _ _) ⟨ho.1.set j u,ho.2⟩ (fun q hq=>.inl hq)
theorem Hold.cd5 {W w : World} {l : List Thing} {b : Nat} {x0 x1 x2 x3 x4 : Value} (h : Hold W w l) (hi : l[0]? = some (tObj W.heap.size b [x0,x1,x2,x3,x4])) (v0 v1 v2 v3 v4 : Value) :
  Hold W (((((w.setCell ⟨b,0,none⟩ v0).setCell ⟨b,1,none⟩ v1).setCell ⟨b,2,none⟩ v2).setCell ⟨b,3,none⟩ v3).setCell ⟨b,4,none⟩ v4) (l.set 0 (tObj W.heap.size b [v0,v1,v2,v3,v4])):=by
 have hl : 0 < l.length:=(List.getElem?_eq_some_iff.1 hi).1
 have h1:=h.cdSet 0 hi 0 v0
 have h2:=h1.cdSet 0 (List.getElem?_set_self hl) 1 v1
 have h3:=h2.cdSet 0 (List.getElem?_set_self (by rw [List.length_set]; exact hl)) 2 v2
 have h4:=h3.cdSet 0 (List.getElem?_set_self (by rw [List.length_set,List.length_set]; exact hl)) 3 v3
 have h5:=h4.cdSet 0 (List.getElem?_set_self (by rw [List.length_set,List.length_set,List.length_set]; exact hl)) 4 v4
 simp only [List.set_set] at h5
 exact h5
theorem zBD (w : World) (c : Nat) (m : CM) (hb : c = w.heap.size) : Src (w.alloc (m.obj 50)) 7 (some ⟨c,0,none⟩) 1 m.list:=by
 subst hb
 exact zBC w m.list _ 7 1 rfl m.one
abbrev scV (t s so d : Int) (v : Value) : Value:=.agg #[.int .i64 t,.int .i64 s,.int .i64 so,.int .i64 d,v]
inductive DecPost (w' : World) (base : Nat) (l : List Int) : Value → Int → Int → Prop
 | short (h : l.length < 4) : DecPost w' base l (scV 0 0 0 0 (.slice none 0 0)) l.length 3
 | conf (t s so d : Int) (r : List Int) (h : l = t :: s :: so :: d :: r) (hr : rightC t s so d = false) : DecPost w' base l (scV 0 0 0 0 (.slice none 0 0)) 0 1
 | bad (t s so d : Int) (r : List Int) (n e : Int) (h : l = t :: s :: so :: d :: r) (hr : rightC t s so d = true) (hd : DecIs r [] n e) (he : e ≠ 0) : DecPost w' base l (scV 0 0 0 0 (.slice none 0 0)) (n + 4) e
 | ok (t s so d : Int) (r : List Int) (ms : List CM) (A : Option Addr) (cp : Nat) (h : l = t :: s :: so :: d :: r) (hr : rightC t s so d = true) (hd : DecIs r ms r.length 0) (ho : w'.ownsRow base 50 7 (.slice A ms.length cp) ms.length (flatM ms)) : DecPost w' base l (scV t s so d (.slice A ms.length cp)) l.length 0
structure DcH (W w : World) (ob sb rb : Nat) (A : Option Addr) (l : List Int) (cap at' : Nat) (t s so d : Int) (A1 : Option Addr) (cp1 : Nat) (ms : List CM) : Prop where
 h : Hold W w [tObj W.heap.size ob [i64 0,i64 0,i64 0,i64 0,.slice none 0 0],tObj W.heap.size sb [i64 t,i64 s,i64 so,i64 d,.slice A1 ms.length cp1],tRow W.heap.size 50 7 (.slice A1 ms.length cp1) ms.length (flatM ms),tObj W.heap.size rb (rdL A l cap at' false)]
 le : at' ≤ l.length
 is : l.drop 4 = encs ms ++ l.drop at'
 at4 : at' = 4 + (encs ms).length
 good : ∀ m ∈ ms,m.Good
 few : ms.length ≤ 65536
theorem zE4 (A : Option Addr) (l : List Int) (cap : Nat) (w : World) (h : IsAt w A (l.map u8)) (hb : Byt l) (hc : l.length ≤ cap) (hf : l.length ≤ 1000000) :
  Calls Tryz.prog 32 #[.slice A l.length cap] w fun r w' => ∃ v n e,r = .returned (.tuple #[v,i64 n,i64 e]) ∧ Below w.heap.size w w' ∧ DecPost w' w.heap.size l v n e:=by
 have H:=zIo h
 have HBY:=zIo hb
 have hbn:=zAA (Below.refl w.heap.size w) (.cells #[.int .i64 0,.int .i64 0,.int .i64 0,.int .i64 0,.slice none 0 0] 29)
 have HB:=zIo hbn
 have HO:=zIo (IsObj.made w [.int .i64 0,.int .i64 0,.int .i64 0,.int .i64 0,.slice none 0 0] 29)
 clear h hb hbn
 rcases Nat.lt_or_ge l.length 4 with h4 | h4
 ·have h4' : (l.length : Int) < 4:=by omega
  have H4:=zIo h4
  go_enter Tryz.func32,Tryz.ntmps32
  go_wp2_with fail
  exact bodyPost_ret (v:=.tuple #[scV 0 0 0 0 (.slice none 0 0),i64 l.length,i64 3]) (by simp [results,Tryz.results32,go_sem]) rfl ⟨_,_,_,rfl,HB.out,.short H4.out⟩
 have h4' : ¬ (l.length : Int) < 4:=by omega
 obtain ⟨b,off,rfl,hbl,hat⟩:=H.out (by rw [List.length_map]; omega)
 obtain ⟨t,s,so,d,r,hl⟩ : ∃ t s so d r,l = t :: s :: so :: d :: r:=by
  match l,h4 with
  | t :: s :: so :: d :: r,_=>exact ⟨t,s,so,d,r,rfl⟩
  | [],h=>exact absurd h (by decide)
  | [_],h=>exact absurd h (by show ¬ 4 ≤ 1; decide)
  | [_,_],h=>exact absurd h (by show ¬ 4 ≤ 2; decide)
  | [_,_,_],h=>exact absurd h (by show ¬ 4 ≤ 3; decide)
 have b0:=HBY.out t (by rw [hl]; simp)
 have b1:=HBY.out s (by rw [hl]; simp)
 have b2:=HBY.out so (by rw [hl]; simp)
 have b3:=HBY.out d (by rw [hl]; simp)
 have x0:=hat 0 (u8 t) (by rw [hl]; rfl)
 have x1:=hat 1 (u8 s) (by rw [hl]; rfl)
 have x2:=hat 2 (u8 so) (by rw [hl]; rfl)
 have x3:=hat 3 (u8 d) (by rw [hl]; rfl)
 have HL:=zIo hl
 have HLT:=zIo hbl
 have hX : ∀ wx,Below w.heap.size w wx → wx.cell? ⟨b,off,none⟩ = some (u8 t) ∧ wx.cell? ⟨b,off + 1,none⟩ = some (u8 s) ∧ wx.cell? ⟨b,off + 2,none⟩ = some (u8 so) ∧ wx.cell? ⟨b,off + 3,none⟩ = some (u8 d):=fun wx hb =>
  ⟨(hb.cell (p:=⟨b,off,none⟩) hbl).trans x0,(hb.cell (p:=⟨b,off + 1,none⟩) hbl).trans x1,(hb.cell (p:=⟨b,off + 2,none⟩) hbl).trans x2,(hb.cell (p:=⟨b,off + 3,none⟩) hbl).trans x3⟩
 have HX:=zIo hX
 have w0 : IntKind.i64.wrap t = t:=IntWalk.i64_in _ (by omega)
 have w1' : IntKind.i64.wrap s = s:=IntWalk.i64_in _ (by omega)
 have w2' : IntKind.i64.wrap so = so:=IntWalk.i64_in _ (by omega)
 have w3' : IntKind.i64.wrap d = d:=IntWalk.i64_in _ (by omega)
 clear hl hbl hat x0 x1 x2 x3 b0 b1 b2 b3 hX
 have HFW:=zIo (show 4 ≤ l.length ∧ l.length ≤ cap ∧ l.length ≤ 1000000 from ⟨h4,hc,hf⟩)
 clear hc hf h4 h4'
 obtain ⟨n,HN⟩ : ∃ n,Hid (l.length = n):=⟨_,zIo rfl⟩
 have hn4 : ¬ (n : Int) < 4:=by have:=HN.out; have:=HFW.out; omega
 have hn0 : (0 : Int) < (n : Int):=by omega
 have hn1 : (1 : Int) < (n : Int):=by omega
 have hn2 : (2 : Int) < (n : Int):=by omega
 have hn3 : (3 : Int) < (n : Int):=by omega
 rw [HN.out]
 go_enter Tryz.func32,Tryz.ntmps32
 go_wp2_with fail
 generalize (w.alloc (.cells #[.int .i64 0,.int .i64 0,.int .i64 0,.int .i64 0,.slice none 0 0] 29)) = w1 at HB HO ⊢
 have hm0 : 0 < n:=by have:=HN.out; have:=HFW.out; omega
 have hm1 : 1 < n:=by have:=HN.out; have:=HFW.out; omega
 have hm2 : 2 < n:=by have:=HN.out; have:=HFW.out; omega
 have hm3 : 3 < n:=by have:=HN.out; have:=HFW.out; omega
 refine zAD ((fun wx=>wx.cell? ⟨b,off,none⟩ = some (u8 t) ∧ wx.cell? ⟨b,off + 1,none⟩ = some (u8 s) ∧ wx.cell? ⟨b,off + 2,none⟩ = some (u8 so) ∧ wx.cell? ⟨b,off + 3,none⟩ = some (u8 d))) ((0,true) :: (1,true) :: (2,true) :: (3,true) :: (4,true) :: (5,true) :: (6,true) :: (7,true) :: (8,true) :: (9,true) :: (10,true) :: (11,true) :: (12,true) :: (13,true) :: (14,true) :: (15,true) :: (16,true) :: (17,true) :: (18,false) :: (19,false) :: []) (by kernel_rfl) (by kernel_rfl) (by kernel_rfl) (by decide) (fun _ _ _ _ _ h=>h) (HX.out _ (HB.out.drew)) ?_
 repeat ((first | (refine zAC (v := ?_) rfl ?_ ?_ ?_; rotate_left 1; rfl; focus (rintro wS ⟨c0,c1,c2,c3⟩; go_simp <;> with_reducible rfl)) | (refine zAB rfl ?_ ?_; rfl)); try simp only [Act.put,qset])
 have HBd:=zIo HB.out.drew
 have HOd:=zIo HO.out.drew
 generalize w1.drew = w2 at HBd HOd ⊢
 refine zAH rfl (fun K hK=>?_)
 go_simp
 refine hK.out _ _ (HX.out _ (zAA HBd.out _)) (fun _=>?_)
 (try simp only [Act.put,qset])
 clear hK K
 refine zAH rfl (fun K hK=>?_)
 go_simp
 refine hK.out _ _ (HX.out _ (zAA HBd.out _)) (fun _=>?_)
 (try simp only [Act.put,qset])
 clear hK K
 refine zAJ ?_
 clear hm0 hm1 hm2 hm3 hn0 hn1 hn2 hn3 hn4
 have HH1:=(Hold.nil (Below.refl w.heap.size w)).more (A:=tObj w.heap.size w.heap.size [i64 0,i64 0,i64 0,i64 0,.slice none 0 0]) HBd.out (zAP _ _ _) ⟨HOd.out,Nat.le_refl _⟩ (fun q hq=>by cases hq; exact Nat.le_refl _)
 have HH2:=HH1.more (A:=tObj w.heap.size w2.heap.size [i64 t,i64 s,i64 so,i64 d,.slice none 0 0]) (zAA (Below.refl _ _) (.cells #[.int .i64 t,.int .i64 s,.int .i64 so,.int .i64 d,.slice none 0 0] 29)) (zAP _ _ _) ⟨IsObj.made w2 [i64 t,i64 s,i64 so,i64 d,.slice none 0 0] 29,HBd.out.size⟩ (fun q hq=>by cases hq; exact Nat.le_refl _)
 have HH3:=zIo (HH2.more (A:=tRow w.heap.size 50 7 (.slice none 0 0) 0 []) (Below.refl _ _) (zA5 _ _ _ _ _ _) (World.ownsRow_nil _ _ _ _) (fun q hq=>by cases hq))
 clear HH1 HH2 HBd HOd HB HO
 generalize hsb : w2.heap.size = sb at HH3 ⊢
 clear hsb
 generalize (w2.alloc (.cells #[.int .i64 t,.int .i64 s,.int .i64 so,.int .i64 d,.slice none 0 0] 29)) = w3 at HH3 ⊢
 have hso:=(HH3.out.has 1 _ rfl : IsObj w3 sb [i64 t,i64 s,i64 so,i64 d,.slice none 0 0] ∧ _).1
 have q0:=hso.at' 0 _ rfl
 have q1:=hso.at' 1 _ rfl
 have q2:=hso.at' 2 _ rfl
 have q3:=hso.at' 3 _ rfl
 clear hso w0 w1' w2' w3'
 rcases Bool.eq_false_or_eq_true (rightC t s so d) with hr | hr
 case inr =>
  have HR:=zIo hr
  clear hr
  go_wp2_with fail
  refine (zBO t s so d false HR.out _).mono ?_
  rintro r' w4 ⟨rfl,hb⟩
  have HH4:=zIo (HH3.out.later hb)
  clear HH3 hb q0 q1 q2 q3
  have hob:=(HH4.out.has 0 _ rfl : IsObj w4 w.heap.size [i64 0,i64 0,i64 0,i64 0,.slice none 0 0] ∧ _).1
  have o0:=hob.at' 0 _ rfl
  have o1:=hob.at' 1 _ rfl
  have o2:=hob.at' 2 _ rfl
  have o3:=hob.at' 3 _ rfl
  have o4:=hob.at' 4 _ rfl
  have g0:=hob.fz 0
  have g1:=hob.fz 1
  have g2:=hob.fz 2
  have g3:=hob.fz 3
  have g4:=hob.fz 4
  clear hob
  go_wp2_with fail
  have hH5:=HH4.out.cd5 rfl (i64 0) (i64 0) (i64 0) (i64 0) (.slice none 0 0)
  generalize (((((w4.setCell ⟨w.heap.size,0,none⟩ (i64 0)).setCell ⟨w.heap.size,1,none⟩ (i64 0)).setCell ⟨w.heap.size,2,none⟩ (i64 0)).setCell ⟨w.heap.size,3,none⟩ (i64 0)).setCell ⟨w.heap.size,4,none⟩ (.slice none 0 0)) = w9 at hH5 ⊢
  have hob:=(hH5.has 0 _ rfl : IsObj w9 w.heap.size [i64 0,i64 0,i64 0,i64 0,.slice none 0 0] ∧ _).1
  have r0:=hob.at' 0 _ rfl
  have r1:=hob.at' 1 _ rfl
  have r2:=hob.at' 2 _ rfl
  have r3:=hob.at' 3 _ rfl
  have r4:=hob.at' 4 _ rfl
  exact bodyPost_ret (v:=.tuple #[scV 0 0 0 0 (.slice none 0 0),i64 0,i64 1]) (by simp [results,Tryz.results32,go_sem,r0,r1,r2,r3,r4]) rfl ⟨_,_,_,rfl,hH5.below,.conf t s so d r HL.out HR.out⟩
 have HR:=zIo hr
 clear hr
 go_wp2_with fail
 refine (zBO t s so d true HR.out _).mono ?_
 rintro r' w4 ⟨rfl,hb⟩
 have HH4:=zIo (HH3.out.later hb)
 clear HH3 hb q0 q1 q2 q3
 have hln:=HN.out
 subst hln
 have hHH5:=HH4.out.more (A:=tObj w.heap.size w4.heap.size (rdL (some ⟨b,off,none⟩) l cap 4 false)) (zAA (Below.refl _ _) (.cells #[.slice (some ⟨b,off,none⟩) l.length cap,.int .i64 4,.bool false] 108)) (zAP _ _ _) ⟨IsObj.made w4 (rdL (some ⟨b,off,none⟩) l cap 4 false) 108,HH4.out.size⟩ (fun q hq=>by cases hq; exact Nat.le_refl _)
 have HD0 : Hid (DcH w (w4.alloc (.cells #[.slice (some ⟨b,off,none⟩) l.length cap,.int .i64 4,.bool false] 108)) w.heap.size sb w4.heap.size (some ⟨b,off,none⟩) l cap 4 t s so d none 0 []):=zIo ⟨hHH5,HFW.out.1,by rw [HL.out]; rfl,rfl,(fun m hm=>by cases hm),by decide⟩
 have HRB:=zIo (show b ≠ w4.heap.size from fun e=>by have:=HLT.out; have:=HH4.out.size; omega)
 have HSZ:=zIo HH4.out.size
 clear hHH5 HH4 HX
 go_wp2_with fail
 generalize hrb : w4.heap.size = rb at HD0 HRB HSZ ⊢
 clear hrb
 generalize (w4.alloc (.cells #[.slice (some ⟨b,off,none⟩) l.length cap,.int .i64 4,.bool false] 108)) = w5 at HD0 ⊢
 go_loopw [7] (fun _ wr => ∃ (at' : Nat) (A1 : Option Addr) (cp1 : Nat) (ms : List CM),Hid (DcH w wr w.heap.size sb rb (some ⟨b,off,none⟩) l cap at' t s so d A1 cp1 ms)) (fun _ wx=>l.length - (RowKit.intOf ((wx.cell? ⟨rb,1,none⟩).getD undef)).toNat)
 case atStart=>exact ⟨4,_,_,[],HD0⟩
 case round =>
  clear HD0
  obtain ⟨at',A1,cp1,ms,HD⟩:=hrel
  have hh:=HD.out.h
  have hrdo:=(hh.has 3 _ rfl : IsObj wr rb (rdL (some ⟨b,off,none⟩) l cap at' false) ∧ _).1
  have HRD:=zIo (show RdIn wr rb (some ⟨b,off,none⟩) l cap at' false from ⟨hrdo,H.out.later hh.below,HFW.out.2.1,fun b' off' e=>by cases e; exact HRB.out,HD.out.le,HBY.out,HFW.out.2.2⟩)
  have k1:=hrdo.at' 1 _ rfl
  have HHold:=zIo hh
  have HIS:=zIo (show l.drop 4 = encs ms ++ l.drop at' ∧ at' = 4 + (encs ms).length ∧ (∀ m ∈ ms,m.Good) ∧ ms.length ≤ 65536 from ⟨HD.out.is,HD.out.at4,HD.out.good,HD.out.few⟩)
  have hle:=HD.out.le
  have HK1:=zIo k1
  clear hh hrdo
  have hdr : l.drop 4 = r:=by rw [HL.out]; rfl
  have HDR:=zIo hdr
  clear hdr
  rcases Nat.lt_or_ge at' l.length with hlt | hge
  ·have hlt' : (at' : Int) < (l.length : Int):=by omega
   have HLE:=zIo hlt
   clear HD
   go_wp2_with fail
   refine (zGU rb (some ⟨b,off,none⟩) l cap at' _ HRD.out).mono ?_
   rintro r' w6 ⟨m,ok,rfl,k6,a2,s2,hR6,hM6⟩
   have HH6:=zIo (HHold.out.turn 3 rfl (A':=tObj w.heap.size rb (rdL (some ⟨b,off,none⟩) l cap a2 s2)) k6 (zAP _ _ _) ⟨hR6.obj,HSZ.out⟩ (fun q hq=>.inl hq))
   have HM6:=zIo hM6
   have HR6:=zIo hR6
   clear k6 hR6 hM6 HHold HRD k1
   have HH7:=zIo (HH6.out.later (zAA (Below.refl _ _) (m.obj 50)))
   have HMB:=zIo (IsObj.made w6 m.list 50)
   cases ok with
   | false =>
    clear HMB
    have hob:=(HH7.out.has 0 _ rfl : IsObj (w6.alloc (m.obj 50)) w.heap.size [i64 0,i64 0,i64 0,i64 0,.slice none 0 0] ∧ _).1
    have o0:=hob.at' 0 _ rfl
    have o1:=hob.at' 1 _ rfl
    have o2:=hob.at' 2 _ rfl
    have o3:=hob.at' 3 _ rfl
    have o4:=hob.at' 4 _ rfl
    have g0:=hob.fz 0
    have g1:=hob.fz 1
    have g2:=hob.fz 2
    have g3:=hob.fz 3
    have g4:=hob.fz 4
    clear hob
    go_wp2_with fail
    have hH5:=HH7.out.cd5 rfl (i64 0) (i64 0) (i64 0) (i64 0) (.slice none 0 0)
    generalize ((((((w6.alloc (m.obj 50)).setCell ⟨w.heap.size,0,none⟩ (i64 0)).setCell ⟨w.heap.size,1,none⟩ (i64 0)).setCell ⟨w.heap.size,2,none⟩ (i64 0)).setCell ⟨w.heap.size,3,none⟩ (i64 0)).setCell ⟨w.heap.size,4,none⟩ (.slice none 0 0)) = w9 at hH5 ⊢
    have hob:=(hH5.has 0 _ rfl : IsObj w9 w.heap.size [i64 0,i64 0,i64 0,i64 0,.slice none 0 0] ∧ _).1
    have r0:=hob.at' 0 _ rfl
    have r1:=hob.at' 1 _ rfl
    have r2:=hob.at' 2 _ rfl
    have r3:=hob.at' 3 _ rfl
    have r4:=hob.at' 4 _ rfl
    obtain ⟨i1,i2,i3,i4⟩:=HIS.out
    rcases HM6.out with ⟨_,hno⟩ | ⟨hf,_⟩
    ·have hd : DecIs r [] ((encs ms).length : Int) 3:=.form ms (l.drop at') i3 i4 (by rw [← HDR.out]; exact i1) (fun e=>by have:=HLE.out; rw [List.drop_eq_nil_iff] at e; omega) hno
     have hp:=DecPost.bad (w':=w9) (base:=w.heap.size) t s so d r _ _ HL.out HR.out hd (by decide)
     rw [show (((encs ms).length : Int) + 4) = (at' : Int) by omega] at hp
     refine bodyPost_ret (v:=.tuple #[scV 0 0 0 0 (.slice none 0 0),i64 at',i64 3]) (by simp [results,Tryz.results32,go_sem,r0,r1,r2,r3,r4]) rfl ⟨_,_,_,rfl,hH5.below, ?_⟩
     exact hp
    ·cases hf
   | true =>
    rcases (by have:=HIS.out.2.2.2; omega : ms.length = 65536 ∨ ms.length < 65536) with hn | hn
    ·have hn' : (ms.length : Int) = 65536:=by omega
     have HN6:=zIo hn
     have hsb:=(HH7.out.has 1 _ rfl : IsObj (w6.alloc (m.obj 50)) sb [i64 t,i64 s,i64 so,i64 d,.slice A1 ms.length cp1] ∧ _).1
     have s4:=hsb.at' 4 _ rfl
     clear hsb HMB
     have hob:=(HH7.out.has 0 _ rfl : IsObj (w6.alloc (m.obj 50)) w.heap.size [i64 0,i64 0,i64 0,i64 0,.slice none 0 0] ∧ _).1
     have o0:=hob.at' 0 _ rfl
     have o1:=hob.at' 1 _ rfl
     have o2:=hob.at' 2 _ rfl
     have o3:=hob.at' 3 _ rfl
     have o4:=hob.at' 4 _ rfl
     have g0:=hob.fz 0
     have g1:=hob.fz 1
     have g2:=hob.fz 2
     have g3:=hob.fz 3
     have g4:=hob.fz 4
     clear hob
     go_wp2_with fail
     have hH5:=HH7.out.cd5 rfl (i64 0) (i64 0) (i64 0) (i64 0) (.slice none 0 0)
     generalize ((((((w6.alloc (m.obj 50)).setCell ⟨w.heap.size,0,none⟩ (i64 0)).setCell ⟨w.heap.size,1,none⟩ (i64 0)).setCell ⟨w.heap.size,2,none⟩ (i64 0)).setCell ⟨w.heap.size,3,none⟩ (i64 0)).setCell ⟨w.heap.size,4,none⟩ (.slice none 0 0)) = w9 at hH5 ⊢
     have hob:=(hH5.has 0 _ rfl : IsObj w9 w.heap.size [i64 0,i64 0,i64 0,i64 0,.slice none 0 0] ∧ _).1
     have r0:=hob.at' 0 _ rfl
     have r1:=hob.at' 1 _ rfl
     have r2:=hob.at' 2 _ rfl
     have r3:=hob.at' 3 _ rfl
     have r4:=hob.at' 4 _ rfl
     obtain ⟨i1,i2,i3,i4⟩:=HIS.out
     rcases HM6.out with ⟨hf,_⟩ | ⟨_,_,hg,r1',hr1,_⟩
     ·cases hf
     ·have hd : DecIs r [] ((encs ms).length : Int) 7:=.many ms m r1' i3 HN6.out (by rw [← HDR.out,i1,hr1]) hg
      have hp:=DecPost.bad (w':=w9) (base:=w.heap.size) t s so d r _ _ HL.out HR.out hd (by decide)
      rw [show (((encs ms).length : Int) + 4) = (at' : Int) by omega] at hp
      refine bodyPost_ret (v:=.tuple #[scV 0 0 0 0 (.slice none 0 0),i64 at',i64 7]) (by simp [results,Tryz.results32,go_sem,r0,r1,r2,r3,r4]) rfl ⟨_,_,_,rfl,hH5.below, ?_⟩
      exact hp
    ·have hn' : ((ms.length : Int) == 65536) = false:=beq_false_of_ne (by omega)
     have HN6:=zIo hn
     have hsb:=(HH7.out.has 1 _ rfl : IsObj (w6.alloc (m.obj 50)) sb [i64 t,i64 s,i64 so,i64 d,.slice A1 ms.length cp1] ∧ _).1
     have s4:=hsb.at' 4 _ rfl
     have HW7:=zIo (show (w6.alloc (m.obj 50)).heap.size = w6.heap.size + 1 by simp)
     have c0:=HMB.out.at' 0 _ rfl
     have c1:=HMB.out.at' 1 _ rfl
     have c2:=HMB.out.at' 2 _ rfl
     have c3:=HMB.out.at' 3 _ rfl
     have c4:=HMB.out.at' 4 _ rfl
     have c5:=HMB.out.at' 5 _ rfl
     have c6:=HMB.out.at' 6 _ rfl
     clear hsb hn HMB
     go_wp2_with (at_builtin; go_loud (refine zAI rfl _ _ 27 rfl w.heap.size 50 _ 7 56 zBB (.slice A1 ms.length cp1) ms.length (flatM ms) rfl ((HH7.out.later (zAA (Below.refl _ _) (m.obj 50))).has 2 _ rfl) (some ⟨_,0,none⟩) 1 1 m.list rfl (zBD _ _ m (by simp)) (by unfold maxLen; have:=HN6.out; omega) (by have:=HN6.out; omega) (HH7.out.later (zAA (Below.refl _ _) (m.obj 50))).size ?_); intro v' w8 hG; go_loud (obtain ⟨A2,cp2,rfl⟩:=zAK hG.own; have hH8:=(HH7.out.later (zAA (Below.refl _ _) (m.obj 50))).append 2 rfl rfl hG; have HH8:=zIo hH8; have hs8:=(hH8.has 1 _ rfl : IsObj w8 sb [i64 t,i64 s,i64 so,i64 d,.slice A1 ms.length cp1] ∧ _).1; have z4:=hs8.at' 4 _ rfl; have y4:=hs8.fz 4; clear hs8 hH8 hG s4 c0 c1 c2 c3 c4 c5 c6 HH7))
     have hH9:=HH8.out.cdSet 1 rfl 4 (.slice A2 (ms.length + 1) cp2)
     obtain ⟨i1,i2,i3,i4⟩:=HIS.out
     rcases HM6.out with ⟨hf,_⟩ | ⟨_,hs2,hg,r1',hr1,ha2⟩
     ·cases hf
     subst hs2
     have hlen : (ms ++ [m]).length = ms.length + 1:=by simp
     have hfl : flatM (ms ++ [m]) = flatM ms ++ m.list:=by rw [zAR]; simp [flatM]
     have hrb : IsObj _ rb (rdL (some ⟨b,off,none⟩) l cap a2 false):=(hH9.has 3 _ rfl).1
     have hc1:=hrb.at' 1 _ rfl
     have hel:=zEA m
     have hd2 : l.drop a2 = r1':=by
      have h1 : l.drop a2 = (l.drop at').drop m.enc.length:=by rw [List.drop_drop,ha2]
      rw [h1,hr1,List.drop_left]
     have hle2:=HR6.out.le
     refine ⟨⟨a2,A2,cp2,ms ++ [m],zIo ⟨?_,hle2, ?_, ?_, ?_, ?_⟩⟩, ?_⟩
     ·rw [hlen,hfl]
      exact hH9
     ·rw [i1,hr1,zBm,hd2,List.append_assoc]
     ·rw [zBm,List.length_append]
      omega
     ·intro x hx
      rcases List.mem_append.1 hx with hx | hx
      ·exact i3 x hx
      ·rw [List.mem_singleton.1 hx]
       exact hg
     ·have:=HN6.out
      rw [hlen]
      omega
     ·rw [hc1,HK1.out]
      simp only [Option.getD_some,RowKit.intOf,Int.toNat_natCast]
      have:=HLE.out
      omega
  ·have hge' : ¬ (at' : Int) < (l.length : Int):=by omega
   have hsb:=(HHold.out.has 1 _ rfl : IsObj wr sb [i64 t,i64 s,i64 so,i64 d,.slice A1 ms.length cp1] ∧ _).1
   have s0:=hsb.at' 0 _ rfl
   have s1:=hsb.at' 1 _ rfl
   have s2:=hsb.at' 2 _ rfl
   have s3:=hsb.at' 3 _ rfl
   have s4:=hsb.at' 4 _ rfl
   have HGE:=zIo (show at' = l.length by omega)
   clear hsb HD HRD hge hle
   have hob:=(HHold.out.has 0 _ rfl : IsObj wr w.heap.size [i64 0,i64 0,i64 0,i64 0,.slice none 0 0] ∧ _).1
   have o0:=hob.at' 0 _ rfl
   have o1:=hob.at' 1 _ rfl
   have o2:=hob.at' 2 _ rfl
   have o3:=hob.at' 3 _ rfl
   have o4:=hob.at' 4 _ rfl
   have g0:=hob.fz 0
   have g1:=hob.fz 1
   have g2:=hob.fz 2
   have g3:=hob.fz 3
   have g4:=hob.fz 4
   clear hob
   go_wp2_with fail
   have hH5:=HHold.out.cd5 rfl (i64 t) (i64 s) (i64 so) (i64 d) (.slice A1 ms.length cp1)
   generalize (((((wr.setCell ⟨w.heap.size,0,none⟩ (i64 t)).setCell ⟨w.heap.size,1,none⟩ (i64 s)).setCell ⟨w.heap.size,2,none⟩ (i64 so)).setCell ⟨w.heap.size,3,none⟩ (i64 d)).setCell ⟨w.heap.size,4,none⟩ (.slice A1 ms.length cp1)) = w9 at hH5 ⊢
   have hob:=(hH5.has 0 _ rfl : IsObj w9 w.heap.size [i64 t,i64 s,i64 so,i64 d,.slice A1 ms.length cp1] ∧ _).1
   have r0:=hob.at' 0 _ rfl
   have r1:=hob.at' 1 _ rfl
   have r2:=hob.at' 2 _ rfl
   have r3:=hob.at' 3 _ rfl
   have r4:=hob.at' 4 _ rfl
   obtain ⟨i1,i2,i3,i4⟩:=HIS.out
   have hre : r = encs ms:=by rw [← HDR.out,i1,HGE.out,List.drop_length,List.append_nil]
   refine bodyPost_ret (v:=.tuple #[scV t s so d (.slice A1 ms.length cp1),i64 l.length,i64 0]) (by simp [results,Tryz.results32,go_sem,r0,r1,r2,r3,r4]) rfl ⟨_,_,_,rfl,hH5.below, ?_⟩
   exact .ok t s so d r ms A1 cp1 HL.out HR.out (.ok ms i3 i4 hre) (hH5.has 2 _ rfl)
end
end Go.Proofs.YtjlpidjilonhfaaGreat
