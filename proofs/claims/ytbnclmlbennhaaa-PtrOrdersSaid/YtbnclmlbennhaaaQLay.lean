/-
  The reference of layer 7: a text's bytes; acts.
-/
import Derived.Test.YtbnclmlbennhaaaQStr
import Derived.Lib.AppendStr
namespace Go.Proofs.Ytbnclmlbennhaaa
set_option maxRecDepth 4000
open Go.RowKit

theorem strCells_b (s : ByteArray) : Lib.strCells s = (btxt s).map (Value.int .u8) := by
  unfold Lib.strCells btxt
  rw [List.map_map]
  rfl
/-- An act: what is laid, or read. -/
structure LayV where
  kd : Int
  sz : Int
  n : Nat
  s : ByteArray
  h : List Int
  ab : Option Addr
  lb : Nat
  cb : Nat
  bl : List Int
def layRow (q : LayV) : List Value := [.int .i64 q.kd, .int .i64 q.sz, .int .u64 (q.n : Int), .string q.s] ++ (q.h.map (Value.int .u8) ++ [.slice q.ab q.lb q.cb])
theorem lay_at {W : World} {T t : Nat} {fr : Nat × Nat} {q : LayV} (h : W.heap[T]? = some (.cells (layRow q).toArray t fr)) (hh : q.h.length = 32) :
    W.cell? ⟨T, 0, none⟩ = some (.int .i64 q.kd) ∧ W.cell? ⟨T, 1, none⟩ = some (.int .i64 q.sz) ∧ W.cell? ⟨T, 2, none⟩ = some (.int .u64 (q.n : Int)) ∧ W.cell? ⟨T, 3, none⟩ = some (.string q.s) ∧ W.cell? ⟨T, 36, none⟩ = some (.slice q.ab q.lb q.cb) ∧ ∀ j v, (q.h.map (Value.int .u8))[j]? = some v → W.cell? ⟨T, 4 + j, none⟩ = some v := by
  refine ⟨cell_of_row _ _ _ _ _ _ h, cell_of_row _ _ _ _ _ _ h, cell_of_row _ _ _ _ _ _ h, cell_of_row _ _ _ _ _ _ h, ?_, fun j v hv => ?_⟩
  · rw [cell_of_row _ _ _ _ _ _ h]
    simp [layRow, hh]
  · rw [cell_of_row _ _ _ _ _ _ h, List.getElem?_toArray, layRow]
    have hj : j < 32 := by
      have := (List.getElem?_eq_some_iff.1 hv).1
      simpa [hh] using this
    rw [List.getElem?_append_right (by simp), List.getElem?_append_left (by simp [hh]; omega)]
    simpa using hv
end Go.Proofs.Ytbnclmlbennhaaa
