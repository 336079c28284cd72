/-
  What layer 8's laws share: the chapter's examples, how a pointer and a list of pointers come in.
-/
import Derived.Test.YtocdjaenhllemaaDoorRb
namespace Go.Proofs.YtocdjaenhllemaaDoor
set_option maxRecDepth 4000
open Go.ChangeShapes Go.WideShapes Go.ChangeAt Go.RowKit

/-- The chapter's example. -/
def exP : PtrV := ⟨3, 5, List.replicate 32 0, by decide, by decide, by decide, byt_zeros8 32⟩
theorem exP_bytes : ptrB exP = [0, 0, 0, 3, 0, 0, 0, 0, 0, 0, 0, 5] ++ List.replicate 32 0 := by decide
theorem par_ptr {H : Type} {enc : TypeId × Value → H} {W : World} {base : Nat} {v : Value} {d : DataW H} {p : List MemPlace} {ts : List TypeId} {ds : List (DataW H)} {j : Nat} (_hok : Value.okWide Tryd.prog W .any base 28 v) (h : ∃ fuel, DataW.trod enc Tryd.prog W 0 (fun _ => true) true fuel 28 v.cells.toList = some (d, p))
    (hsz : (DataW.weightsEach Tryd.prog ts ds).all (· ≤ reachBytes) = true) (ht : ts[j]? = some 28) (hd : ds[j]? = some d) : ∃ q : PtrV, v = .agg (ptrRow q).toArray := by
  obtain ⟨q, hq⟩ := opn_param opn_ptr h hsz ht hd
  have e : v.cells.toList = ptrRow q := hq
  refine ⟨q, ?_⟩
  rw [agg_cells (v := v) (by rw [e, ptrRow_length]; decide)]
  congr 1
  rw [← e]
theorem ptrs_at {w w' : World} {x : List PtrV} {a : Option Addr} {n c i : Nat} (h : Ptrs w x a n c) (hb : Below w.heap.size w w') (hi : i < n) :
    ∃ b off q, a = some ⟨b, off, none⟩ ∧ x[i]? = some q ∧ w'.rangeAt b (off + i * 34) (ptrRow q) := by
  obtain ⟨b, off, cs, h1, h2, _, h5⟩ := h.here i (by rw [h.len]; exact hi)
  obtain rfl : cs = ptrRow _ := h2
  exact ⟨b, off, _, h1, List.getElem?_eq_getElem _, range_below h5 hb⟩
end Go.Proofs.YtocdjaenhllemaaDoor
