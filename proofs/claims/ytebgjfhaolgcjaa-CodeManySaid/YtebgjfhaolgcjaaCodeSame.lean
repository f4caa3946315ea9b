/-
  The laws' own comparison of two rows of bytes; the document's example. No condition but that bytes are from 0 to 255.
-/
import Derived.Test.YtebgjfhaolgcjaaCodeYes
import Derived.Laws.BytesArg
namespace Go.Proofs.Ytebgjfhaolgcjaa
open Go.RowKit
set_option linter.unusedVariables false

theorem ba_loop (bs : ByteArray) : ∀ (n i : Nat) (r : List UInt8), bs.size - i = n → ByteArray.toList.loop bs i r = r.reverse ++ bs.data.toList.drop i
  | 0, i, r, h => by
    have hs : bs.size = bs.data.toList.length := by rw [Array.length_toList]; rfl
    rw [ByteArray.toList.loop, if_neg (by omega), List.drop_of_length_le (by omega), List.append_nil]
  | n + 1, i, r, h => by
    have hs : bs.size = bs.data.toList.length := by rw [Array.length_toList]; rfl
    have hi : i < bs.data.toList.length := by omega
    rw [ByteArray.toList.loop, if_pos (by omega), ba_loop bs n (i + 1) _ (by omega), List.reverse_cons, List.append_assoc, List.drop_eq_getElem_cons hi]
    have hg : bs.get! i = bs.data.toList[i] := by
      show bs.data[i]! = _
      rw [getElem!_pos bs.data i (by rw [← Array.length_toList]; exact hi), Array.getElem_toList]
    rw [hg]
    rfl
theorem ba_toList (bs : ByteArray) : bs.toList = bs.data.toList := by
  rw [ByteArray.toList, ba_loop bs _ 0 [] rfl]
  rfl
theorem str_inj {a b : List Int} (ha : Byt a) (hb : Byt b) : ((strOfNums a).toList == (strOfNums b).toList) = decide (a = b) := by
  rw [ba_toList, ba_toList, strOfNums_data, strOfNums_data]
  by_cases h : a = b
  · rw [h, decide_eq_true rfl]
    simp
  · rw [decide_eq_false h]
    refine beq_false_of_ne (fun e => h ?_)
    have key : ∀ (x y : List Int), Byt x → Byt y → x.map (fun n => UInt8.ofNat n.toNat) = y.map (fun n => UInt8.ofNat n.toNat) → x = y := by
      intro x
      induction x with
      | nil =>
        intro y _ _ he
        cases y with
        | nil => rfl
        | cons y ys => cases he
      | cons x xs ih =>
        intro y hx hy he
        cases y with
        | nil => cases he
        | cons y ys =>
          rw [List.map_cons, List.map_cons, List.cons.injEq] at he
          have h1 := congrArg UInt8.toNat he.1
          have b1 := hx x List.mem_cons_self
          have b2 := hy y List.mem_cons_self
          rw [UInt8.toNat_ofNat', UInt8.toNat_ofNat'] at h1
          have e1 : x = y := by omega
          rw [e1, ih ys (fun z hz => hx z (List.mem_cons_of_mem _ hz)) (fun z hz => hy z (List.mem_cons_of_mem _ hz)) he.2]
    exact key a b ha hb e
theorem conv_bytes {w : World} {A : Option Addr} {l : List Int} {c : Nat} (h : IsAt w A (l.map u8)) : (convert 29 9 (.slice A l.length c)).run Try.prog w = .ok (.string (strOfNums l)) w := by
  cases l with
  | nil =>
    cases A with
    | none =>
      rw [run_convert_bytes_nil w 29 5 Try.underlying29 (by kernel_rfl) _ _ _ (by kernel_rfl)]
      rfl
    | some a =>
      rw [run_convert_bytes_string w 29 9 5 _ _ c Try.underlying29 (by kernel_rfl) (by kernel_rfl)]
      exact run_bytesToString w a 0 c [] (run_loadCells_list w a [] (fun j v hj => by simp at hj))
  | cons x xs =>
    obtain ⟨b, off, rfl, _, h3⟩ := h (by simp)
    refine run_convert_bytes_arg w 29 5 Try.underlying29 (by kernel_rfl) b off _ c (x :: xs) rfl (fun i hi => ?_) _ (by kernel_rfl)
    rw [h3 i (u8 ((x :: xs).getD i 0)) (by rw [List.getElem?_map, List.getD_eq_getElem?_getD, List.getElem?_eq_getElem hi]; rfl)]
set_option maxHeartbeats 2000000 in
theorem same18_any (A B : Option Addr) (l k : List Int) (c1 c2 : Nat) (w : World) (hA : Row8 w A l) (hB : Row8 w B k) :
    Calls Try.prog 7 #[.slice A l.length c1, .slice B k.length c2] w fun r w' => r = .returned (.bool (decide (l = k))) ∧ w = w' := by
  have e1 := conv_bytes (c := c1) hA.at'
  have e2 := conv_bytes (c := c2) hB.at'
  have e3 := str_inj hA.byt hB.byt
  clear hA hB
  go_enter Try.func7, Try.ntmps7
  go_wp2
  go_ret
  exact ⟨rfl, rfl⟩
end Go.Proofs.Ytebgjfhaolgcjaa
