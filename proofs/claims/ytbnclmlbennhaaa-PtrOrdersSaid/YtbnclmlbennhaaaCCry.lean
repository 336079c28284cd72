/-
  ctr's Crypt.
-/
import Derived.Test.YtbnclmlbennhaaaCStr
namespace Go.Proofs.Ytbnclmlbennhaaa
set_option maxRecDepth 4000
open Go.RowKit

/-- Of a slice that reads as bytes: a byte's cell. -/
theorem BS.cellY {w : World} {a : Option Addr} {n cap : Nat} {l : List (BitVec 8)} (h : BS w (.slice a n cap) (l.map yv)) (hl : l.length = n) {i : Nat} (hi : i < n) :
    ∃ b off, a = some ⟨b, off, none⟩ ∧ b < w.heap.size ∧ w.cell? ⟨b, off + i, none⟩ = some (.int .u8 (yv (l.getD i 0))) := by
  obtain ⟨a', cap', hv, hy, hn, h⟩ := h
  injection hv with e1 e2 e3
  rcases h with h | ⟨b, off, ha, hc⟩
  · have : l = [] := List.map_eq_nil_iff.1 h
    subst this
    simp at hl; omega
  · have hc := hc i (by simpa [hl] using hi)
    refine ⟨b, off, e1.trans ha, block_lt_of_cell hc, ?_⟩
    rw [hc]
    have : i < l.length := by omega
    simp [List.getD, this]
theorem setF_id_at (f : Nat → BitVec 8) (s : List (BitVec 8)) (k i : Nat) (hi : i < s.length) : (setF id f k s)[i]? = some (if i < k then f i else s.getD i 0) := by
  induction k with
  | zero => simp [setF, List.getD, hi]
  | succ k ih =>
    have hlen := setF_length id f k s
    show ((setF id f k s).set k (f k))[i]? = _
    by_cases h : k = i
    · subst h
      have h1 : k < (setF id f k s).length := by omega
      rw [List.getElem?_set_self h1, if_pos (by omega)]
    · rw [List.getElem?_set_ne h, ih]
      by_cases h2 : i < k
      · rw [if_pos h2, if_pos (by omega)]
      · rw [if_neg h2, if_neg (by omega)]
theorem setF_xor (s l : List (BitVec 8)) (n : Nat) (hs : s.length = n) (hl : l.length = n) : setF id (fun i => s.getD i 0 ^^^ l.getD i 0) n s = sumB l s := by
  apply List.ext_getElem?
  intro i
  by_cases hi : i < n
  · rw [setF_id_at _ _ _ _ (by omega), if_pos hi]
    have i1 : i < s.length := by omega
    have i2 : i < l.length := by omega
    simp [sumB, List.getElem?_zipWith, List.getD, i1, i2, BitVec.xor_comm]
  · rw [List.getElem?_eq_none (by rw [setF_length]; omega), List.getElem?_eq_none (by rw [sumB_length l s n hl hs]; omega)]

end Go.Proofs.Ytbnclmlbennhaaa
