/-
  The reference's Space of layer 11 in memory, and its calls.
-/
import Derived.Test.YtpeemnkhcgapnaaDoorVi
namespace Go.Proofs.YtpeemnkhcgapnaaDoor
set_option maxRecDepth 4000
set_option linter.unusedVariables false
open Go.ChangeShapes Go.WideShapes Go.ChangeAt Go.RowKit

/-- Which are taken, if these are free. -/
def takF (n : Nat) (F : Nat → Bool) : Nat → Bool := fun a => allF n a && !F a
def boolsF (t : Nat → Bool) (n : Nat) : List Value := (List.range n).map fun i => .bool (t i)
theorem boolsF_len (t : Nat → Bool) (n : Nat) : (boolsF t n).length = n := by simp [boolsF]
theorem boolsF_at (t : Nat → Bool) (n i : Nat) (h : i < n) : (boolsF t n)[i]? = some (.bool (t i)) := by simp [boolsF, h]
theorem takF_in {n a : Nat} (F : Nat → Bool) (h0 : 2 ≤ a) (h1 : a < n) : takF n F a = !F a := by unfold takF allF; simp [h0, h1]
theorem takF_out {n a : Nat} (F : Nat → Bool) (h : a < 2 ∨ n ≤ a) : takF n F a = false := by
  unfold takF allF
  rcases h with h | h
  · rw [decide_eq_false (show ¬ 2 ≤ a by omega)]; rfl
  · rw [decide_eq_false (show ¬ a < n by omega), Bool.and_false]; rfl
theorem boolsF_set (F : Nat → Bool) (n a : Nat) (b : Bool) (h0 : 2 ≤ a) (h1 : a < n) : (boolsF (takF n F) n).set a (.bool b) = boolsF (takF n (updF F a (!b))) n := by
  apply List.ext_getElem?
  intro i
  rw [List.getElem?_set, boolsF_len]
  by_cases e : a = i
  · subst e
    rw [if_pos rfl, if_pos h1, boolsF_at _ _ _ h1, takF_in _ h0 h1, updF_same]
    cases b <;> rfl
  · rw [if_neg e]
    by_cases hi : i < n
    · rw [boolsF_at _ _ _ hi, boolsF_at _ _ _ hi]
      unfold takF
      rw [updF_other F a i _ (Ne.symm e)]
    · rw [List.getElem?_eq_none (by rw [boolsF_len]; omega), List.getElem?_eq_none (by rw [boolsF_len]; omega)]
theorem boolsF_none (n : Nat) : boolsF (takF n (allF n)) n = List.replicate n (.bool false) := by
  apply List.ext_getElem?
  intro i
  by_cases hi : i < n
  · rw [boolsF_at _ _ _ hi, List.getElem?_replicate, if_pos hi]
    unfold takF
    cases allF n i <;> rfl
  · rw [List.getElem?_eq_none (by rw [boolsF_len]; omega), List.getElem?_eq_none (by simp; omega)]
structure RW (w : World) (M G n : Nat) (F : Nat → Bool) : Prop where
  cell : w.heap[M]? = some (.cells #[.slice (some ⟨G, 0, none⟩) n n] 45 (0, 0))
  row : w.heap[G]? = some (.cells (boolsF (takF n F) n).toArray 4 (0, 0))
  lo : 16 ≤ n
  hi : n ≤ 4096
theorem RW.at {w : World} {M G n : Nat} {F : Nat → Bool} (h : RW w M G n F) : w.cell? ⟨M, 0, none⟩ = some (.slice (some ⟨G, 0, none⟩) n n) := cell_of_row _ _ _ _ _ _ h.cell
theorem RW.freeM {w : World} {M G n : Nat} {F : Nat → Bool} (h : RW w M G n F) : w.frozen? ⟨M, 0, none⟩ = false := frozen_of_row _ _ _ _ _ h.cell
theorem RW.flag {w : World} {M G n : Nat} {F : Nat → Bool} (h : RW w M G n F) (i : Nat) (hi : i < n) : w.cell? ⟨G, i, none⟩ = some (.bool (takF n F i)) := by
  rw [cell_of_row _ _ _ _ _ _ h.row, List.getElem?_toArray, boolsF_at _ _ _ hi]
theorem RW.freeG {w : World} {M G n : Nat} {F : Nat → Bool} (h : RW w M G n F) (i : Nat) : w.frozen? ⟨G, i, none⟩ = false := frozen_of_row _ _ _ _ _ h.row
theorem RW.ltM {w : World} {M G n : Nat} {F : Nat → Bool} (h : RW w M G n F) : M < w.heap.size := (Array.getElem?_eq_some_iff.1 h.cell).1
theorem RW.ltG {w : World} {M G n : Nat} {F : Nat → Bool} (h : RW w M G n F) : G < w.heap.size := (Array.getElem?_eq_some_iff.1 h.row).1
theorem RW.ne {w : World} {M G n : Nat} {F : Nat → Bool} (h : RW w M G n F) : M ≠ G := fun e => by
  have h1 := h.cell
  rw [e, h.row] at h1
  injection h1 with h1
  injection h1 with h1
  have h2 := congrArg Array.size h1
  simp [boolsF_len] at h2
  have := h.lo
  omega
theorem RW.touch {w w' : World} {M G n : Nat} {F : Nat → Bool} {l : List Nat} (h : RW w M G n F) (t : Touch l w w') (hM : M ∉ l) (hG : G ∉ l) : RW w' M G n F :=
  ⟨(t.block M h.ltM hM).trans h.cell, (t.block G h.ltG hG).trans h.row, h.lo, h.hi⟩
theorem RW.below {w w' : World} {M G n : Nat} {F : Nat → Bool} (h : RW w M G n F) (t : Below w.heap.size w w') : RW w' M G n F :=
  ⟨(t.block M h.ltM).trans h.cell, (t.block G h.ltG).trans h.row, h.lo, h.hi⟩
theorem RW.set {w : World} {M G n : Nat} {F : Nat → Bool} (h : RW w M G n F) (a : Nat) (b : Bool) (h0 : 2 ≤ a) (h1 : a < n) : RW (w.setCell ⟨G, a, none⟩ (.bool b)) M G n (updF F a (!b)) := by
  refine ⟨?_, ?_, h.lo, h.hi⟩
  · rw [heap_setCell_other w ⟨G, a, none⟩ M _ h.ne]; exact h.cell
  · rw [heap_setCell_same w G a _ _ _ h.row]
    congr 2
    rw [List.setIfInBounds_toArray, boolsF_set F n a b h0 h1]
theorem index_bool (k : IntKind) (G n i : Nat) (h : i < n) (W : World) : (Instr.indexAt 43 (.slice (some ⟨G, 0, none⟩) n n) (.int k (i : Int))).run Tryd.prog W = .ok (.pointer (some ⟨G, i, none⟩)) W := by
  obtain ⟨i0, hi, hs⟩ := Option.map_eq_some_iff.1 (show (Tryd.prog.info? 4).map (·.size) = some 1 by kernel_rfl)
  simp [Instr.indexAt, asIntOf, run_underlying Tryd.underlying43, sizeOf, typeInfo, hi, hs, h, Addr.add_mid]
theorem info_bool11 : (Tryd.prog.info? 4).map (fun i => (i.zero, i.size, i.bytes)) = some (some (.bool false), 1, 1) := by kernel_rfl
theorem make_bools (n : Nat) (h : n ≤ 100000000) (w : World) : (Instr.makeSlice 43 (.int .i64 (n : Int)) (.int .i64 (n : Int))).run Tryd.prog w = .ok (.slice (some ⟨w.heap.size, 0, none⟩) n n) (w.alloc (.cells (boolsF (takF n (allF n)) n).toArray 4)) := by
  rw [run_make_row' 43 4 (.bool false) 1 Tryd.underlying43 info_bool11 rfl .i64 .i64 n (by omega) (by omega) w, boolsF_none]
  congr 3
  apply Array.ext'
  rw [toList_madeCells_one]
theorem zero_rspace (W : World) : (zeroValue 45).run Tryd.prog W = .ok (.agg #[.slice none 0 0]) W := by kernel_rfl
theorem rnew11_bad (n : Int) (w : World) (h : n < 16 ∨ 4096 < n) : Calls Tryd.prog 12 #[.int .i64 n] w fun e w' => e = .returned (.tuple #[.pointer none, .bool false]) ∧ w' = w := by
  by_cases h1 : n < 16
  · clear h
    go_enter Tryd.func12, Tryd.ntmps12
    go_wp2_with fail
    go_ret2
    exact ⟨rfl, rfl⟩
  · have h2 : 4096 < n := by omega
    clear h
    go_enter Tryd.func12, Tryd.ntmps12
    go_wp2_with fail
    go_ret2
    exact ⟨rfl, rfl⟩
set_option maxHeartbeats 1000000 in
theorem rnew11_ok (n : Nat) (w : World) (h0 : 16 ≤ n) (h1 : n ≤ 4096) : Calls Tryd.prog 12 #[.int .i64 (n : Int)] w fun e w' => e = .returned (.tuple #[.pointer (some ⟨w.heap.size + 1, 0, none⟩), .bool true]) ∧ RW w' (w.heap.size + 1) w.heap.size n (allF n) ∧ Below w.heap.size w w' := by
  have nI0 : (16 : Int) ≤ (n : Int) := by omega
  have nI1 : (n : Int) ≤ 4096 := by omega
  have hmk := make_bools n (by omega)
  have hz := zero_rspace
  have HN := Lib.hid (And.intro h0 h1)
  clear h0 h1
  obtain ⟨RB, hRB⟩ : ∃ RB, (boolsF (takF n (allF n)) n).toArray = RB := ⟨_, rfl⟩
  rw [hRB] at hmk
  have HRB := Lib.hid hRB
  clear hRB
  go_enter Tryd.func12, Tryd.ntmps12
  go_wp2_with fail
  have h1 := heap_alloc_new (w.alloc (.cells RB 4)) (.cells #[.slice (some ⟨w.heap.size, 0, none⟩) n n] 45)
  have hsz : (w.alloc (.cells RB 4)).heap.size = w.heap.size + 1 := by simp
  have hba := (Below.refl w.heap.size w).alloc (Nat.le_refl _) (.cells RB 4)
  have hbb := (Below.refl (w.alloc (.cells RB 4)).heap.size (w.alloc (.cells RB 4))).alloc (Nat.le_refl _) (.cells #[.slice (some ⟨w.heap.size, 0, none⟩) n n] 45)
  have h0 := (hbb.block w.heap.size (by omega)).trans (heap_alloc_new w (.cells RB 4))
  rw [hsz] at h1
  go_ret2
  exact ⟨rfl, ⟨h1, by rw [HRB.out]; exact h0, HN.out.1, HN.out.2⟩, hba.trans (hbb.mono (by omega))⟩
theorem ris_any (M G n a : Nat) (F : Nat → Bool) (w : World) (h : RW w M G n F) (ha : a < 4294967296) : Calls Tryd.prog 30 #[.pointer (some ⟨M, 0, none⟩), .int .u32 (a : Int)] w fun e w' => e = .returned (.bool (allF n a)) ∧ w' = w := by
  have hc := h.at
  have nI : (n : Int) ≤ 4096 := by have := h.hi; omega
  have n0 : (0 : Int) ≤ (n : Int) := by omega
  have a0 : (0 : Int) ≤ (a : Int) := by omega
  have aI : (a : Int) < 4294967296 := by omega
  clear h
  by_cases h1 : a < 2
  · rw [show allF n a = false by unfold allF; rw [decide_eq_false (by omega)]; rfl]
    have h2 : (a : Int) < 2 := by omega
    clear h1 nI n0 a0 aI hc ha
    go_enter Tryd.func30, Tryd.ntmps30
    go_wp2
    go_ret
    exact ⟨rfl, rfl⟩
  · have h2 : (2 : Int) ≤ (a : Int) := by omega
    by_cases h3 : a < n
    · rw [show allF n a = true by unfold allF; rw [decide_eq_true (by omega), decide_eq_true h3]; rfl]
      have h4 : (a : Int) < (n : Int) := by omega
      clear h1
      go_enter Tryd.func30, Tryd.ntmps30
      go_wp2
      go_ret
      exact ⟨rfl, rfl⟩
    · rw [show allF n a = false by unfold allF; rw [decide_eq_false h3, Bool.and_false]]
      have h4 : (n : Int) ≤ (a : Int) := by omega
      clear h1
      go_enter Tryd.func30, Tryd.ntmps30
      go_wp2
      go_ret
      exact ⟨rfl, rfl⟩
end Go.Proofs.YtpeemnkhcgapnaaDoor
