/-
  The cells of a list of pointers, one behind the other.
-/
import Derived.Test.YtocdjaenhllemaaPv
namespace Go.Proofs.Ytocdjaenhllemaa
set_option maxRecDepth 4000
open Go.ChangeShapes Go.WideShapes Go.ChangeAt Go.RowKit

/-- The cells of a list of pointers. -/
def rowsP (l : List PtrV) : List Value := l.flatMap ptrRow
theorem rowsP_snoc (l : List PtrV) (q : PtrV) : rowsP (l ++ [q]) = rowsP l ++ ptrRow q := by simp [rowsP]
theorem rowsP_length (l : List PtrV) : (rowsP l).length = l.length * 34 := by
  induction l with
  | nil => rfl
  | cons q l ih =>
    show (ptrRow q ++ rowsP l).length = _
    rw [List.length_append, ih, ptrRow_length, List.length_cons]
    omega
theorem own_belowP {B n k : Nat} {e : TypeId} {v : Value} {xs : List Value} {w w' : World} (h : w.ownsRow B e k v n xs) (hb : Below w.heap.size w w') : w'.ownsRow B e k v n xs :=
  h.kept (row := none) ⟨hb.os, hb.tape, hb.output, hb.size, fun j hj _ => hb.block j hj⟩ (by by_cases q : v.ownBlock = none; exact .inl q; exact .inr q)
theorem lit_ptr (q : PtrV) (W : World) : (Instr.buildSlice 27 1 #[(0, .agg (ptrRow q).toArray)]).run Try.prog W = .ok (.slice (some ⟨W.heap.size, 0, none⟩) 1 1) (W.alloc (.cells (ptrRow q).toArray 35)) :=
  lit_one Try.underlying27 info_ptr (by decide) (by decide) _ (by simp [ptrRow_length]) W
theorem rowsP_at (l : List PtrV) (i : Nat) (q : PtrV) (hi : l[i]? = some q) (j : Nat) (hj : j < 34) : (rowsP l)[i * 34 + j]? = (ptrRow q)[j]? := by
  induction l generalizing i with
  | nil => simp at hi
  | cons p l ih =>
    show (ptrRow p ++ rowsP l)[i * 34 + j]? = _
    cases i with
    | zero =>
      simp at hi
      subst hi
      rw [List.getElem?_append_left (by rw [ptrRow_length]; omega)]
      congr 1
      omega
    | succ i =>
      rw [List.getElem?_append_right (by rw [ptrRow_length]; omega), ptrRow_length]
      rw [← ih i (by simpa using hi)]
      congr 1
      omega
theorem new_row8 (w : World) (Z R : Array Value) : ((w.alloc (.cells Z 35)).setRow w.heap.size R).heap[w.heap.size]? = some (.cells R 35 (0, 0)) ∧ Below w.heap.size w ((w.alloc (.cells Z 35)).setRow w.heap.size R) := by
  obtain ⟨e1, e2, e3⟩ := ygen_row (w := w) (old := Z) (cs := R) (T := 35)
  exact ⟨e1, e3⟩
end Go.Proofs.Ytocdjaenhllemaa
