/-
  The program's Space in memory: New, Mark, Free, Has, and what they lean on.
-/
import Derived.Test.YtpeemnkhcgapnaaDoorVb
namespace Go.Proofs.YtpeemnkhcgapnaaDoor
set_option maxRecDepth 4000
set_option linter.unusedVariables false
open Go.RowKit

theorem setCells_tail {b t : Nat} : ∀ (new old pre : List Value) (w : World) (o : Nat), pre.length = o → old.length = new.length → w.heap[b]? = some (.cells (pre ++ old).toArray t (0, 0)) →
    (w.setCells b o new).heap[b]? = some (.cells (pre ++ new).toArray t (0, 0)) ∧ Only b w (w.setCells b o new)
  | [], old, pre, w, o, _, hl, h => by
    obtain rfl : old = [] := List.eq_nil_of_length_eq_zero hl
    exact ⟨h, Only.refl b w⟩
  | v :: vs, u :: us, pre, w, o, ho, hl, h => by
    subst ho
    have h1 : (w.setCell ⟨b, pre.length, none⟩ v).heap[b]? = some (.cells ((pre ++ [v]) ++ us).toArray t (0, 0)) := by
      rw [heap_setCell_same w b _ _ _ _ h]
      congr 2
      rw [List.setIfInBounds_toArray, List.set_append_right _ _ (by omega), Nat.sub_self, List.set_cons_zero, List.append_assoc]; rfl
    obtain ⟨h2, h3⟩ := setCells_tail vs us (pre ++ [v]) _ (pre.length + 1) (by simp) (by simpa using hl) h1
    refine ⟨?_, ?_⟩
    · rw [List.append_assoc] at h2; exact h2
    · have q := (Only.refl b w).setCell pre.length v
      exact ⟨h3.size.trans q.size, fun k hk => (h3.rest k hk).trans (q.rest k hk), fun B hB => (q.bel B hB).trans (h3.bel B hB)⟩
/-- All sectors of a space of so many. -/
def allF (n : Nat) : Nat → Bool := fun a => decide (2 ≤ a) && decide (a < n)
theorem allF_zero : allF 2 = fun _ => false := by
  funext a; unfold allF
  by_cases h : 2 ≤ a
  · simp [h]
  · simp [h]
theorem allF_next (a : Nat) (h : 2 ≤ a) : updF (allF a) a true = allF (a + 1) := by
  funext x; unfold updF allF
  by_cases e : x = a
  · subst e; simp [h]
  · rw [if_neg e]
    have : (x < a + 1) = (x < a) := by apply propext; omega
    simp [this]
/-- A Space: its size, and which of its sectors are free. -/
structure SP (w : World) (S n : Nat) (F : Nat → Bool) : Prop where
  arr : SA w S 59 [.int .u32 (n : Int)] F
  lo : 16 ≤ n
  hi : n ≤ 4096
  own : ∀ a, F a = true → 2 ≤ a ∧ a < n
theorem SP.size {w : World} {S n : Nat} {F : Nat → Bool} (h : SP w S n F) : w.cell? ⟨S, 0, none⟩ = some (.int .u32 (n : Int)) := h.arr.head
theorem SP.touch {w w' : World} {S n : Nat} {F : Nat → Bool} {l : List Nat} (h : SP w S n F) (q : Touch l w w') (hb : S ∉ l) : SP w' S n F := ⟨h.arr.touch q hb, h.lo, h.hi, h.own⟩
theorem SP.below {w w' : World} {S n : Nat} {F : Nat → Bool} (h : SP w S n F) (q : Below w.heap.size w w') : SP w' S n F := ⟨h.arr.below q, h.lo, h.hi, h.own⟩
theorem SP.drop {F : Nat → Bool} {n a : Nat} (h : ∀ a, F a = true → 2 ≤ a ∧ a < n) : ∀ x, updF F a false x = true → 2 ≤ x ∧ x < n := fun x hx => by
  unfold updF at hx
  split at hx
  · cases hx
  · exact h x hx
theorem SP.add {F : Nat → Bool} {n a : Nat} (h : ∀ a, F a = true → 2 ≤ a ∧ a < n) (ha : 2 ≤ a ∧ a < n) : ∀ x, updF F a true x = true → 2 ≤ x ∧ x < n := fun x hx => by
  unfold updF at hx
  split at hx
  · rename_i e; subst e; exact ha
  · exact h x hx
theorem lacks_nil (a : Nat) (w : World) : Calls Tryd.prog 27 #[.pointer none, .int .u32 (a : Int)] w fun e w' => e = .returned (.int .i64 1) ∧ w' = w := by
  go_enter Tryd.func27, Tryd.ntmps27
  go_wp2
  go_ret
  exact ⟨rfl, rfl⟩
def lackA (n a : Nat) : Int := if a < 2 ∨ n ≤ a then 2 else 0
theorem lacks_any (S n a : Nat) (F : Nat → Bool) (w : World) (h : SP w S n F) : Calls Tryd.prog 27 #[.pointer (some ⟨S, 0, none⟩), .int .u32 (a : Int)] w fun e w' => e = .returned (.int .i64 (lackA n a)) ∧ w' = w := by
  have hc := h.size
  clear h
  unfold lackA
  by_cases h1 : a < 2
  · rw [if_pos (.inl h1)]
    have h2 : (a : Int) < 2 := by omega
    go_enter Tryd.func27, Tryd.ntmps27
    go_wp2
    go_ret
    exact ⟨rfl, rfl⟩
  · have h2 : (2 : Int) ≤ (a : Int) := by omega
    by_cases h3 : n ≤ a
    · rw [if_pos (.inr h3)]
      have h4 : (n : Int) ≤ (a : Int) := by omega
      clear h1 h3
      go_enter Tryd.func27, Tryd.ntmps27
      go_wp2
      go_ret
      exact ⟨rfl, rfl⟩
    · rw [if_neg (by omega)]
      have h4 : (a : Int) < (n : Int) := by omega
      clear h1 h3
      go_enter Tryd.func27, Tryd.ntmps27
      go_wp2
      go_ret
      exact ⟨rfl, rfl⟩
theorem size_sectors (F : Nat → Bool) : (Tryd.prog.info? 57).map (·.size) = some (wordsF F).toArray.size := by
  rw [show (Tryd.prog.info? 57).map (·.size) = some 64 by kernel_rfl, List.size_toArray, wordsF_length]
set_option maxRecDepth 100000 in
set_option maxHeartbeats 1600000 in
theorem all_any (S n : Nat) (w : World) (hc : w.cell? ⟨S, 0, none⟩ = some (.int .u32 (n : Int))) (hlo : 16 ≤ n) (hhi : n ≤ 4096) :
    Calls Tryd.prog 26 #[.pointer (some ⟨S, 0, none⟩)] w fun e w' => e = .returned (.agg (wordsF (allF n)).toArray) ∧ Below w.heap.size w w' := by
  have HC := Lib.hid hc
  have HSL := Lib.hid (show S < w.heap.size from block_lt_of_cell hc)
  clear hc
  go_enter Tryd.func26, Tryd.ntmps26
  go_wp2_with fail
  refine ygen2 fun W0 hW => ?_
  obtain ⟨h0, h1, hsz, hbel⟩ := hW
  have HR := Lib.hid (show W0.heap[w.heap.size]? = some (.cells (List.replicate 64 (.int .u64 0)).toArray 57 (0, 0)) from h0)
  have HX0 := Lib.hid (show SA W0 (w.heap.size + 1) 57 [] (allF 2) by
    unfold SA
    rw [allF_zero, wordsF_none]
    exact h1)
  have HB := Lib.hid hbel
  clear h0 h1 hsz hbel
  generalize hP0 : w.heap.size = P0 at *
  have HP0 := Lib.hid hP0
  clear hP0
  go_loopw [4] (fun v4 wr => ∃ a : Nat, 2 ≤ a ∧ a ≤ n ∧ v4 = .int .u32 (a : Int) ∧ SA wr (P0 + 1) 57 [] (allF a) ∧ wr.heap[P0]? = some (.cells (List.replicate 64 (.int .u64 0)).toArray 57 (0, 0)) ∧ Below P0 w wr) (fun v _ => n - (intOf v).toNat)
  case atStart => exact ⟨2, by omega, by omega, rfl, HX0.out, HR.out, HB.out⟩
  case round =>
    clear HX0 HR HB
    obtain ⟨a, ha2, han, rfl, hA, hR, hb⟩ := hrel
    have hc := (hb.cell (p := ⟨S, 0, none⟩) HSL.out).trans HC.out
    by_cases hlt : a < n
    · have HADD := Lib.hid (add_any11 (P0 + 1) 57 0 a [] (allF a) wr hA rfl (by omega))
      have HR2 := Lib.hid hR
      have HB2 := Lib.hid hb
      have HLT := Lib.hid (And.intro ha2 (And.intro hlt hhi))
      have iI : (a : Int) < (n : Int) := by omega
      have i0 : (0 : Int) ≤ (a : Int) := by omega
      have nI : (n : Int) ≤ 4096 := by omega
      clear hA hR hb ha2 han hlt
      go_wp2_with fail
      refine HADD.out.mono ?_
      rintro e w2 ⟨rfl, hA2, hT⟩
      have HA2 := Lib.hid hA2
      have HT := Lib.hid hT
      clear hA2 hT HADD hc
      go_wp2_with fail
      go_roundw
      case rel =>
        have q := HLT.out
        refine ⟨a + 1, by omega, by omega, by go_num, by rw [← allF_next a q.1]; exact HA2.out, ?_, ?_⟩
        · exact (HT.out.block P0 (Array.getElem?_eq_some_iff.1 HR2.out).1 (by simp)).trans HR2.out
        · exact HB2.out.trans (HT.out.below (by have := HB2.out.size; have := HP0.out; omega) (by simp))
      case measure => simp [intOf]; have := HLT.out; omega
    · obtain rfl : n = a := by omega
      have HA := Lib.hid (show wr.heap[P0 + 1]? = some (.cells (wordsF (allF n)).toArray 57 (0, 0)) from hA)
      have HR2 := Lib.hid hR
      have HB2 := Lib.hid hb
      have SH := Lib.hid (size_sectors (allF n))
      have SE := Lib.hid (show (List.replicate 64 (Value.int .u64 0)).toArray.size = (wordsF (allF n)).toArray.size by rw [List.size_toArray, List.size_toArray, wordsF_length, List.length_replicate])
      have ONE := Lib.hid (show (wordsF (allF n)).toArray.all (·.oneCell') = true from all_oneCell_toArray (wordsF_one _))
      clear hA hR hb hlt
      obtain ⟨R, hRR⟩ : ∃ R, (wordsF (allF n)).toArray = R := ⟨_, rfl⟩
      rw [hRR] at HA SH SE ONE
      have HRR := Lib.hid hRR
      clear hRR
      go_wp2_with (first
        | (with_reducible refine wpList_load_row (o := ⟨some 15, _, _, _, _, _⟩) rfl 57 _ rfl (P0 + 1) rfl 57 R (0, 0) _ HA.out Tryd.underlying57 rfl SH.out ?_)
        | (with_reducible refine wpList_store_row (o := ⟨none, .store _ (.tmp 2) _, _, _, _, _⟩) rfl 57 _ _ rfl P0 R rfl rfl 57 (List.replicate 64 (.int .u64 0)).toArray HR2.out SH.out SE.out ONE.out ?_))
      refine bodyPost_ret (v := .agg R) (results_cell_row Tryd.results26 _ _ P0 57 R (0, 0) _ rfl (setRow_heap _ P0 _ R _ _ HR2.out) Tryd.underlying57 rfl SH.out) rfl ⟨by rw [HRR.out], ?_⟩
      rw [HP0.out]
      exact ybelow_row HB2.out (by omega) _
set_option maxRecDepth 100000 in
set_option maxHeartbeats 1600000 in
theorem pnew11_bad (n : Int) (w : World) (h : n < 16 ∨ 4096 < n) : Calls Tryd.prog 11 #[.int .i64 n] w fun e w' => e = .returned (.tuple #[.pointer none, .int .i64 2]) ∧ w' = w := by
  by_cases h1 : n < 16
  · clear h
    go_enter Tryd.func11, Tryd.ntmps11
    go_wp2_with fail
    go_ret2
    exact ⟨rfl, rfl⟩
  · have h2 : 4096 < n := by omega
    clear h
    go_enter Tryd.func11, Tryd.ntmps11
    go_wp2_with fail
    go_ret2
    exact ⟨rfl, rfl⟩
theorem zero_space (W : World) : (zeroValue 59).run Tryd.prog W = .ok (.agg #[.int .u32 0, .int .u64 0, .int .u64 0, .int .u64 0, .int .u64 0, .int .u64 0, .int .u64 0, .int .u64 0, .int .u64 0, .int .u64 0, .int .u64 0, .int .u64 0, .int .u64 0, .int .u64 0, .int .u64 0, .int .u64 0, .int .u64 0, .int .u64 0, .int .u64 0, .int .u64 0, .int .u64 0, .int .u64 0, .int .u64 0, .int .u64 0, .int .u64 0, .int .u64 0, .int .u64 0, .int .u64 0, .int .u64 0, .int .u64 0, .int .u64 0, .int .u64 0, .int .u64 0, .int .u64 0, .int .u64 0, .int .u64 0, .int .u64 0, .int .u64 0, .int .u64 0, .int .u64 0, .int .u64 0, .int .u64 0, .int .u64 0, .int .u64 0, .int .u64 0, .int .u64 0, .int .u64 0, .int .u64 0, .int .u64 0, .int .u64 0, .int .u64 0, .int .u64 0, .int .u64 0, .int .u64 0, .int .u64 0, .int .u64 0, .int .u64 0, .int .u64 0, .int .u64 0, .int .u64 0, .int .u64 0, .int .u64 0, .int .u64 0, .int .u64 0, .int .u64 0]) W := by kernel_rfl
set_option maxRecDepth 100000 in
set_option maxHeartbeats 1600000 in
theorem pnew11_ok (n : Nat) (w : World) (h0 : 16 ≤ n) (h1 : n ≤ 4096) : Calls Tryd.prog 11 #[.int .i64 (n : Int)] w fun e w' => e = .returned (.tuple #[.pointer (some ⟨w.heap.size, 0, none⟩), .int .i64 0]) ∧ SP w' w.heap.size n (allF n) ∧ Below w.heap.size w w' := by
  have nI0 : (16 : Int) ≤ (n : Int) := by omega
  have nI1 : (n : Int) ≤ 4096 := by omega
  have HN := Lib.hid (And.intro h0 h1)
  clear h0 h1
  have hz := zero_space
  go_enter Tryd.func11, Tryd.ntmps11
  go_upto_region 4 with fail
  clear hz
  have hs := heap_alloc_new w (.cells (#[Value.int .u32 (n : Int), .int .u64 0, .int .u64 0, .int .u64 0, .int .u64 0, .int .u64 0, .int .u64 0, .int .u64 0, .int .u64 0, .int .u64 0, .int .u64 0, .int .u64 0, .int .u64 0, .int .u64 0, .int .u64 0, .int .u64 0, .int .u64 0, .int .u64 0, .int .u64 0, .int .u64 0, .int .u64 0, .int .u64 0, .int .u64 0, .int .u64 0, .int .u64 0, .int .u64 0, .int .u64 0, .int .u64 0, .int .u64 0, .int .u64 0, .int .u64 0, .int .u64 0, .int .u64 0, .int .u64 0, .int .u64 0, .int .u64 0, .int .u64 0, .int .u64 0, .int .u64 0, .int .u64 0, .int .u64 0, .int .u64 0, .int .u64 0, .int .u64 0, .int .u64 0, .int .u64 0, .int .u64 0, .int .u64 0, .int .u64 0, .int .u64 0, .int .u64 0, .int .u64 0, .int .u64 0, .int .u64 0, .int .u64 0, .int .u64 0, .int .u64 0, .int .u64 0, .int .u64 0, .int .u64 0, .int .u64 0, .int .u64 0, .int .u64 0, .int .u64 0, .int .u64 0]) 59)
  have hb := (Below.refl w.heap.size w).alloc (Nat.le_refl _) (.cells (#[Value.int .u32 (n : Int), .int .u64 0, .int .u64 0, .int .u64 0, .int .u64 0, .int .u64 0, .int .u64 0, .int .u64 0, .int .u64 0, .int .u64 0, .int .u64 0, .int .u64 0, .int .u64 0, .int .u64 0, .int .u64 0, .int .u64 0, .int .u64 0, .int .u64 0, .int .u64 0, .int .u64 0, .int .u64 0, .int .u64 0, .int .u64 0, .int .u64 0, .int .u64 0, .int .u64 0, .int .u64 0, .int .u64 0, .int .u64 0, .int .u64 0, .int .u64 0, .int .u64 0, .int .u64 0, .int .u64 0, .int .u64 0, .int .u64 0, .int .u64 0, .int .u64 0, .int .u64 0, .int .u64 0, .int .u64 0, .int .u64 0, .int .u64 0, .int .u64 0, .int .u64 0, .int .u64 0, .int .u64 0, .int .u64 0, .int .u64 0, .int .u64 0, .int .u64 0, .int .u64 0, .int .u64 0, .int .u64 0, .int .u64 0, .int .u64 0, .int .u64 0, .int .u64 0, .int .u64 0, .int .u64 0, .int .u64 0, .int .u64 0, .int .u64 0, .int .u64 0, .int .u64 0]) 59)
  have hlt : w.heap.size < (w.alloc (.cells (#[Value.int .u32 (n : Int), .int .u64 0, .int .u64 0, .int .u64 0, .int .u64 0, .int .u64 0, .int .u64 0, .int .u64 0, .int .u64 0, .int .u64 0, .int .u64 0, .int .u64 0, .int .u64 0, .int .u64 0, .int .u64 0, .int .u64 0, .int .u64 0, .int .u64 0, .int .u64 0, .int .u64 0, .int .u64 0, .int .u64 0, .int .u64 0, .int .u64 0, .int .u64 0, .int .u64 0, .int .u64 0, .int .u64 0, .int .u64 0, .int .u64 0, .int .u64 0, .int .u64 0, .int .u64 0, .int .u64 0, .int .u64 0, .int .u64 0, .int .u64 0, .int .u64 0, .int .u64 0, .int .u64 0, .int .u64 0, .int .u64 0, .int .u64 0, .int .u64 0, .int .u64 0, .int .u64 0, .int .u64 0, .int .u64 0, .int .u64 0, .int .u64 0, .int .u64 0, .int .u64 0, .int .u64 0, .int .u64 0, .int .u64 0, .int .u64 0, .int .u64 0, .int .u64 0, .int .u64 0, .int .u64 0, .int .u64 0, .int .u64 0, .int .u64 0, .int .u64 0, .int .u64 0]) 59)).heap.size := by simp
  generalize w.alloc (.cells (#[Value.int .u32 (n : Int), .int .u64 0, .int .u64 0, .int .u64 0, .int .u64 0, .int .u64 0, .int .u64 0, .int .u64 0, .int .u64 0, .int .u64 0, .int .u64 0, .int .u64 0, .int .u64 0, .int .u64 0, .int .u64 0, .int .u64 0, .int .u64 0, .int .u64 0, .int .u64 0, .int .u64 0, .int .u64 0, .int .u64 0, .int .u64 0, .int .u64 0, .int .u64 0, .int .u64 0, .int .u64 0, .int .u64 0, .int .u64 0, .int .u64 0, .int .u64 0, .int .u64 0, .int .u64 0, .int .u64 0, .int .u64 0, .int .u64 0, .int .u64 0, .int .u64 0, .int .u64 0, .int .u64 0, .int .u64 0, .int .u64 0, .int .u64 0, .int .u64 0, .int .u64 0, .int .u64 0, .int .u64 0, .int .u64 0, .int .u64 0, .int .u64 0, .int .u64 0, .int .u64 0, .int .u64 0, .int .u64 0, .int .u64 0, .int .u64 0, .int .u64 0, .int .u64 0, .int .u64 0, .int .u64 0, .int .u64 0, .int .u64 0, .int .u64 0, .int .u64 0, .int .u64 0]) 59) = w1 at *
  have HS := Lib.hid (show w1.heap[w.heap.size]? = some (.cells ([Value.int .u32 (n : Int)] ++ List.replicate 64 (Value.int .u64 0)).toArray 59 (0, 0)) from hs)
  have HB := Lib.hid hb
  clear hs hb
  generalize hS : w.heap.size = S at *
  have HSE := Lib.hid hS
  clear hS
  have HALL := Lib.hid (all_any S n w1 (by rw [cell_of_row w1 S _ _ _ _ HS.out]; rfl) HN.out.1 HN.out.2)
  go_wp2_with fail
  refine HALL.out.mono ?_
  rintro e w2 ⟨rfl, hb2⟩
  have hs2 := (hb2.block S hlt).trans HS.out
  obtain ⟨q1, q2⟩ := setCells_tail (wordsF (allF n)) (List.replicate 64 (Value.int .u64 0)) [Value.int .u32 (n : Int)] w2 1 rfl (by rw [wordsF_length, List.length_replicate]) hs2
  have TH := Lib.hid (show w2.there S 1 (wordsF (allF n)).toArray.size from fun j hj => by
    rw [List.size_toArray, wordsF_length] at hj
    refine ⟨?_, frozen_of_row w2 S _ _ _ hs2⟩
    rw [cell_of_row w2 S _ _ _ _ hs2, List.getElem?_toArray, List.getElem?_append_right (by simp), List.getElem?_replicate, if_pos (by simp; omega)]
    rfl)
  have SZ := Lib.hid (size_sectors (allF n))
  have ONE := Lib.hid (show (wordsF (allF n)).toArray.all (·.oneCell') = true from all_oneCell_toArray (wordsF_one _))
  have HEND := Lib.hid (show SP (w2.setCells S 1 (wordsF (allF n)).toArray.toList) S n (allF n) ∧ Below S w (w2.setCells S 1 (wordsF (allF n)).toArray.toList) from by
    refine ⟨⟨q1, HN.out.1, HN.out.2, fun a ha => by unfold allF at ha; simpa using ha⟩, ?_⟩
    have e := HSE.out
    exact (HB.out.trans (hb2.mono (by omega))).trans (q2.bel S (Nat.le_refl _)))
  clear hb2 hs2 q1 q2 HALL HS HB hlt
  obtain ⟨R, hRR⟩ : ∃ R, (wordsF (allF n)).toArray = R := ⟨_, rfl⟩
  rw [hRR] at TH SZ ONE HEND ⊢
  clear hRR
  go_wp2_with (first
    | (with_reducible refine wpList_store_mid (op := ⟨none, .store _ (.tmp 19) _, _, _, _, _⟩) rfl 57 _ _ rfl S 1 R rfl rfl TH.out SZ.out ONE.out ?_))
  go_ret2
  exact ⟨by rw [HSE.out]; rfl, by rw [HSE.out]; exact HEND.out.1, by rw [HSE.out]; exact HEND.out.2⟩
theorem lackA_bad {n a : Nat} (h : a < 2 ∨ n ≤ a) : lackA n a = 2 := by unfold lackA; rw [if_pos h]
theorem lackA_ok {n a : Nat} (h : ¬ (a < 2 ∨ n ≤ a)) : lackA n a = 0 := by unfold lackA; rw [if_neg h]
def markA (n : Nat) (F : Nat → Bool) (a : Nat) : Int × (Nat → Bool) := if a < 2 ∨ n ≤ a then (2, F) else if F a = true then (0, updF F a false) else (9, F)
def freeA (n : Nat) (F : Nat → Bool) (a : Nat) : Int × (Nat → Bool) := if a < 2 ∨ n ≤ a then (2, F) else if F a = true then (8, F) else (0, updF F a true)
def hasA (n : Nat) (F : Nat → Bool) (a : Nat) : Bool := decide (2 ≤ a) && decide (a < n) && !F a
set_option maxHeartbeats 1000000 in
theorem pmark11_nil (a : Nat) (w : World) : Calls Tryd.prog 13 #[.pointer none, .int .u32 (a : Int)] w fun e w' => e = .returned (.int .i64 1) ∧ w' = w := by
  have HL := Lib.hid (lacks_nil a w)
  go_enter Tryd.func13, Tryd.ntmps13
  go_wp2_with fail
  refine HL.out.mono ?_
  rintro e w2 ⟨rfl, rfl⟩
  clear HL
  go_wp2_with fail
  go_ret
  exact ⟨rfl, rfl⟩
set_option maxHeartbeats 1000000 in
theorem pmark11_any (S n a : Nat) (F : Nat → Bool) (w : World) (h : SP w S n F) :
    Calls Tryd.prog 13 #[.pointer (some ⟨S, 0, none⟩), .int .u32 (a : Int)] w fun e w' => e = .returned (.int .i64 (markA n F a).1) ∧ SP w' S n (markA n F a).2 ∧ Touch [S] w w' := by
  have hl := lacks_any S n a F w h
  unfold markA
  by_cases hb : a < 2 ∨ n ≤ a
  · rw [if_pos hb]
    rw [lackA_bad hb] at hl
    have HL := Lib.hid hl
    have HH := Lib.hid h
    clear hl h hb
    go_enter Tryd.func13, Tryd.ntmps13
    go_wp2_with fail
    refine HL.out.mono ?_
    rintro e w2 ⟨rfl, rfl⟩
    clear HL
    go_wp2_with fail
    go_ret
    exact ⟨rfl, HH.out, Touch.refl _ _⟩
  · rw [if_neg hb]
    rw [lackA_ok hb] at hl
    have hhi := h.hi
    have HHAS := Lib.hid (has_any S 59 1 a [.int .u32 (n : Int)] F w h.arr rfl (by omega))
    have HL := Lib.hid hl
    have HH := Lib.hid h
    cases hF : F a with
    | false =>
      rw [hF] at HHAS
      rw [if_neg (by simp)]
      clear hl h hb hhi hF
      go_enter Tryd.func13, Tryd.ntmps13
      go_wp2_with fail
      refine HL.out.mono ?_
      rintro e w2 ⟨rfl, rfl⟩
      clear HL
      go_wp2_with fail
      refine HHAS.out.mono ?_
      rintro e w3 ⟨rfl, hb3⟩
      have HB3 := Lib.hid hb3
      clear HHAS hb3
      go_wp2_with fail
      go_ret
      exact ⟨rfl, HH.out.below HB3.out, Touch.of_below HB3.out⟩
    | true =>
      rw [hF] at HHAS
      rw [if_pos rfl]
      have HD := Lib.hid (fun (W : World) (hB : Below w.heap.size w W) => drop_any11 S 59 1 a [.int .u32 (n : Int)] F W (h.below hB).arr rfl (by omega))
      have HEND := Lib.hid (SP.drop h.own : ∀ x, updF F a false x = true → 2 ≤ x ∧ x < n)
      clear hl h hb hhi hF
      go_enter Tryd.func13, Tryd.ntmps13
      go_wp2_with fail
      refine HL.out.mono ?_
      rintro e w2 ⟨rfl, rfl⟩
      clear HL
      go_wp2_with fail
      refine HHAS.out.mono ?_
      rintro e w3 ⟨rfl, hb3⟩
      have HB3 := Lib.hid hb3
      clear HHAS hb3
      go_wp2_with fail
      refine (HD.out _ HB3.out).mono ?_
      rintro e w4 ⟨rfl, hs4, ht4⟩
      have HQ := Lib.hid (And.intro hs4 ((Touch.of_below HB3.out).trans ht4))
      clear HD hs4 ht4
      go_wp2_with fail
      go_ret
      exact ⟨rfl, ⟨HQ.out.1, HH.out.lo, HH.out.hi, HEND.out⟩, HQ.out.2⟩
set_option maxHeartbeats 1000000 in
theorem pfree11_nil (a : Nat) (w : World) : Calls Tryd.prog 15 #[.pointer none, .int .u32 (a : Int)] w fun e w' => e = .returned (.int .i64 1) ∧ w' = w := by
  have HL := Lib.hid (lacks_nil a w)
  go_enter Tryd.func15, Tryd.ntmps15
  go_wp2_with fail
  refine HL.out.mono ?_
  rintro e w2 ⟨rfl, rfl⟩
  clear HL
  go_wp2_with fail
  go_ret
  exact ⟨rfl, rfl⟩
set_option maxHeartbeats 1000000 in
theorem pfree11_any (S n a : Nat) (F : Nat → Bool) (w : World) (h : SP w S n F) :
    Calls Tryd.prog 15 #[.pointer (some ⟨S, 0, none⟩), .int .u32 (a : Int)] w fun e w' => e = .returned (.int .i64 (freeA n F a).1) ∧ SP w' S n (freeA n F a).2 ∧ Touch [S] w w' := by
  have hl := lacks_any S n a F w h
  unfold freeA
  by_cases hb : a < 2 ∨ n ≤ a
  · rw [if_pos hb]
    rw [lackA_bad hb] at hl
    have HL := Lib.hid hl
    have HH := Lib.hid h
    clear hl h hb
    go_enter Tryd.func15, Tryd.ntmps15
    go_wp2_with fail
    refine HL.out.mono ?_
    rintro e w2 ⟨rfl, rfl⟩
    clear HL
    go_wp2_with fail
    go_ret
    exact ⟨rfl, HH.out, Touch.refl _ _⟩
  · rw [if_neg hb]
    rw [lackA_ok hb] at hl
    have hhi := h.hi
    have HHAS := Lib.hid (has_any S 59 1 a [.int .u32 (n : Int)] F w h.arr rfl (by omega))
    have HL := Lib.hid hl
    have HH := Lib.hid h
    cases hF : F a with
    | true =>
      rw [hF] at HHAS
      rw [if_pos rfl]
      clear hl h hb hhi hF
      go_enter Tryd.func15, Tryd.ntmps15
      go_wp2_with fail
      refine HL.out.mono ?_
      rintro e w2 ⟨rfl, rfl⟩
      clear HL
      go_wp2_with fail
      refine HHAS.out.mono ?_
      rintro e w3 ⟨rfl, hb3⟩
      have HB3 := Lib.hid hb3
      clear HHAS hb3
      go_wp2_with fail
      go_ret
      exact ⟨rfl, HH.out.below HB3.out, Touch.of_below HB3.out⟩
    | false =>
      rw [hF] at HHAS
      rw [if_neg (by simp)]
      have HD := Lib.hid (fun (W : World) (hB : Below w.heap.size w W) => add_any11 S 59 1 a [.int .u32 (n : Int)] F W (h.below hB).arr rfl (by omega))
      have HEND := Lib.hid (SP.add h.own (by omega) : ∀ x, updF F a true x = true → 2 ≤ x ∧ x < n)
      clear hl h hb hhi hF
      go_enter Tryd.func15, Tryd.ntmps15
      go_wp2_with fail
      refine HL.out.mono ?_
      rintro e w2 ⟨rfl, rfl⟩
      clear HL
      go_wp2_with fail
      refine HHAS.out.mono ?_
      rintro e w3 ⟨rfl, hb3⟩
      have HB3 := Lib.hid hb3
      clear HHAS hb3
      go_wp2_with fail
      refine (HD.out _ HB3.out).mono ?_
      rintro e w4 ⟨rfl, hs4, ht4⟩
      have HQ := Lib.hid (And.intro hs4 ((Touch.of_below HB3.out).trans ht4))
      clear HD hs4 ht4
      go_wp2_with fail
      go_ret
      exact ⟨rfl, ⟨HQ.out.1, HH.out.lo, HH.out.hi, HEND.out⟩, HQ.out.2⟩
set_option maxHeartbeats 1000000 in
theorem phas11_any (S n a : Nat) (F : Nat → Bool) (w : World) (h : SP w S n F) :
    Calls Tryd.prog 25 #[.pointer (some ⟨S, 0, none⟩), .int .u32 (a : Int)] w fun e w' => e = .returned (.bool (hasA n F a)) ∧ Below w.heap.size w w' := by
  have hl := lacks_any S n a F w h
  by_cases hb : a < 2 ∨ n ≤ a
  · rw [lackA_bad hb] at hl
    have hr : hasA n F a = false := by
      unfold hasA
      rcases hb with h | h
      · simp; omega
      · simp; omega
    rw [hr]
    have HL := Lib.hid hl
    clear hl h hb hr
    go_enter Tryd.func25, Tryd.ntmps25
    go_wp2_with fail
    refine HL.out.mono ?_
    rintro e w2 ⟨rfl, rfl⟩
    clear HL
    go_wp2_with fail
    go_ret
    exact ⟨rfl, Below.refl _ _⟩
  · rw [lackA_ok hb] at hl
    have hhi := h.hi
    have HHAS := Lib.hid (has_any S 59 1 a [.int .u32 (n : Int)] F w h.arr rfl (by omega))
    have hr : hasA n F a = !F a := by
      unfold hasA
      have h1 : 2 ≤ a := by omega
      have h2 : a < n := by omega
      simp [h1, h2]
    rw [hr]
    have HL := Lib.hid hl
    clear hl h hb hr hhi
    generalize F a = r at *
    go_enter Tryd.func25, Tryd.ntmps25
    go_wp2_with fail
    refine HL.out.mono ?_
    rintro e w2 ⟨rfl, rfl⟩
    clear HL
    go_wp2_with fail
    refine HHAS.out.mono ?_
    rintro e w3 ⟨rfl, hb3⟩
    have HB3 := Lib.hid hb3
    clear HHAS hb3
    go_wp2_with fail
    go_ret
    exact ⟨rfl, HB3.out⟩
end Go.Proofs.YtpeemnkhcgapnaaDoor
