/-
  Layer 11's laws: rows of addresses that a law writes into.
-/
import Derived.Test.YtpeemnkhcgapnaaDoorVh
namespace Go.Proofs.YtpeemnkhcgapnaaDoor
set_option maxRecDepth 4000
set_option linter.unusedVariables false
open Go.ChangeShapes Go.WideShapes Go.ChangeAt Go.RowKit

/-- Block g is a row of these addresses. -/
def ArrU (w : World) (g : Nat) (l : List Nat) : Prop := w.heap[g]? = some (.cells (u32n l).toArray 31 (0, 0))
theorem ArrU.lt {w : World} {g : Nat} {l : List Nat} (h : ArrU w g l) : g < w.heap.size := (Array.getElem?_eq_some_iff.1 h).1
theorem ArrU.cell {w : World} {g i : Nat} {l : List Nat} (h : ArrU w g l) (hi : i < l.length) : w.cell? ⟨g, i, none⟩ = some (.int .u32 (l.getD i 0 : Nat)) := by
  rw [cell_of_row w g i _ _ _ h, List.getElem?_toArray, u32n_at _ _ hi]
theorem ArrU.free {w : World} {g : Nat} {l : List Nat} (h : ArrU w g l) (i : Nat) : w.frozen? ⟨g, i, none⟩ = false := frozen_of_row w g i _ _ h
theorem ArrU.set {w : World} {g : Nat} {l : List Nat} (h : ArrU w g l) (i y : Nat) : ArrU (w.setCell ⟨g, i, none⟩ (.int .u32 (y : Int))) g (l.set i y) := by
  unfold ArrU
  rw [heap_setCell_same w g i _ _ _ h]
  congr 2
  rw [List.setIfInBounds_toArray, u32n, u32n, List.map_set]
theorem ArrU.touch {w w' : World} {g : Nat} {l : List Nat} {m : List Nat} (h : ArrU w g l) (q : Touch m w w') (hg : g ∉ m) : ArrU w' g l := (q.block g h.lt hg).trans h
theorem ArrU.below {w w' : World} {g : Nat} {l : List Nat} (h : ArrU w g l) (q : Below w.heap.size w w') : ArrU w' g l := (q.block g h.lt).trans h
theorem ArrU.us {w : World} {g n c : Nat} {l : List Nat} (h : ArrU w g l) (hl : l.length = n) (hs : ∀ x ∈ l, x < 4294967296) : US w (some ⟨g, 0, none⟩) n c l :=
  ⟨hl, hs, .inr ⟨g, 0, rfl, fun i hi => by rw [Nat.zero_add]; exact h.cell (by omega)⟩⟩
theorem touch_set (w : World) (g i : Nat) (v : Value) : Touch [g] w (w.setCell ⟨g, i, none⟩ v) := Touch.of_only ((Only.refl g w).setCell i v) (by simp)
/-- The first i of them, then noughts. -/
def fillU (l : List Nat) (i : Nat) : List Nat := l.take i ++ List.replicate (l.length - i) 0
theorem fillU_len (l : List Nat) (i : Nat) (h : i ≤ l.length) : (fillU l i).length = l.length := by
  rw [fillU, List.length_append, List.length_take, List.length_replicate]; omega
theorem fillU_zero (l : List Nat) : fillU l 0 = List.replicate l.length 0 := by simp [fillU]
theorem fillU_full (l : List Nat) : fillU l l.length = l := by simp [fillU]
theorem fillU_set (l : List Nat) (i : Nat) (h : i < l.length) : (fillU l i).set i (l.getD i 0) = fillU l (i + 1) := by
  have e : l.length - i = (l.length - (i + 1)) + 1 := by omega
  have e2 : l.getD i 0 = l[i] := by simp [List.getD, h]
  unfold fillU
  rw [e, List.replicate_succ, List.set_append_right _ _ (by rw [List.length_take]; omega), List.length_take, show i - min i l.length = 0 by omega, List.set_cons_zero, List.take_succ_eq_append_getElem h, e2, List.append_assoc]
  rfl
/-- Block g is a row whose first k cells are some addresses. -/
def RU (w : World) (g k : Nat) : Prop := ∃ cur : Array Value, w.heap[g]? = some (.cells cur 31 (0, 0)) ∧ ∀ j, j < k → ∃ x : Nat, x < 4294967296 ∧ cur[j]? = some (.int .u32 (x : Int))
theorem RU.lt {w : World} {g k : Nat} (h : RU w g k) : g < w.heap.size := by obtain ⟨_, h, _⟩ := h; exact (Array.getElem?_eq_some_iff.1 h).1
theorem RU.cell {w : World} {g k j : Nat} (h : RU w g k) (hj : j < k) : ∃ x : Nat, x < 4294967296 ∧ w.cell? ⟨g, j, none⟩ = some (.int .u32 (x : Int)) := by
  obtain ⟨cur, h1, h2⟩ := h
  obtain ⟨x, hx, hc⟩ := h2 j hj
  exact ⟨x, hx, by rw [cell_of_row w g j _ _ _ h1]; exact hc⟩
theorem RU.free {w : World} {g k : Nat} (h : RU w g k) (j : Nat) : w.frozen? ⟨g, j, none⟩ = false := by
  obtain ⟨cur, h1, _⟩ := h; exact frozen_of_row w g j _ _ h1
theorem RU.set {w : World} {g k : Nat} (h : RU w g k) (i y : Nat) (hy : y < 4294967296) : RU (w.setCell ⟨g, i, none⟩ (.int .u32 (y : Int))) g k := by
  obtain ⟨cur, h1, h2⟩ := h
  refine ⟨_, heap_setCell_same w g i _ _ _ h1, fun j hj => ?_⟩
  obtain ⟨x, hx, hc⟩ := h2 j hj
  rw [Array.getElem?_setIfInBounds]
  by_cases e : i = j
  · subst e
    rw [if_pos rfl, if_pos (Array.getElem?_eq_some_iff.1 hc).1]
    exact ⟨y, hy, rfl⟩
  · rw [if_neg e]; exact ⟨x, hx, hc⟩
theorem ArrU.ru {w : World} {g n : Nat} {l : List Nat} (h : ArrU w g l) (hl : l.length = n) (hs : ∀ x ∈ l, x < 4294967296) : RU w g n := by
  refine ⟨_, h, fun j hj => ⟨l.getD j 0, ?_, by rw [List.getElem?_toArray, u32n_at _ _ (by omega)]⟩⟩
  have e : l.getD j 0 = l[j]'(by omega) := by simp [List.getD, show j < l.length by omega]
  rw [e]; exact hs _ (List.getElem_mem _)
theorem ou_ru {w : World} {B k c : Nat} {a : Option Addr} {l : List Nat} (h : OU w B (.slice a k c) l) (hl : l.length = k) (hs : ∀ x ∈ l, x < 4294967296) (hB : B ≤ w.heap.size) :
    ∃ g, B ≤ g ∧ (k = 0 ∨ (a = some ⟨g, 0, none⟩ ∧ RU w g k)) := by
  subst hl
  rcases h.2 with ⟨_, h0⟩ | ⟨g, cap, cur, hv, hg, hc, h1, _, h3, h4⟩
  · exact ⟨B, Nat.le_refl _, .inl h0⟩
  · injection hv with e1 e2 e3
    refine ⟨g, hg, .inr ⟨e1, cur, hc, fun j hj => ⟨l.getD j 0, ?_, ?_⟩⟩⟩
    · have e : l.getD j 0 = l[j] := by simp [List.getD, hj]
      rw [e]; exact hs _ (List.getElem_mem _)
    · have h5 := u32n_at l j hj
      rw [← h4, List.getElem?_take_of_lt (by omega), Array.getElem?_toList] at h5
      exact h5
theorem make_u32 (n : Nat) (h : n ≤ 100000000) (w : World) : (Instr.makeSlice 32 (.int .i64 (n : Int)) (.int .i64 (n : Int))).run Tryd.prog w = .ok (.slice (some ⟨w.heap.size, 0, none⟩) n n) (w.alloc (.cells (madeCells #[.int .u32 0] n) 31)) :=
  run_make_row' 32 31 (.int .u32 0) 4 Tryd.underlying32 info_u32n rfl .i64 .i64 n (by omega) (by omega) w
theorem made_u32 (n : Nat) : madeCells #[.int .u32 0] n = (u32n (List.replicate n 0)).toArray := by
  apply Array.ext'
  rw [toList_madeCells_one]
  simp [u32n]
theorem index_u32z (g len cap i : Nat) (h : i < len) (W : World) : (Instr.indexAt 32 (.slice (some ⟨g, 0, none⟩) len cap) (.int .i64 (i : Int))).run Tryd.prog W = .ok (.pointer (some ⟨g, i, none⟩)) W := by
  have := index_u32 g 0 len cap i h W
  rwa [Nat.zero_add] at this
end Go.Proofs.YtpeemnkhcgapnaaDoor
