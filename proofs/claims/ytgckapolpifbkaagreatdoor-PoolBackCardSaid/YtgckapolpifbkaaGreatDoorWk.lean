import Derived.Test.YtgckapolpifbkaaGreatDoorWi
namespace Go.Proofs.YtgckapolpifbkaaGreatDoor
set_option maxRecDepth 4000
set_option linter.unusedVariables false
open Go.ChangeShapes Go.WideShapes Go.ChangeAt Go.RowKit
def fillF (n j : Nat) : Nat → Bool := fun a => decide (2 + j ≤ a) && decide (a < n)
theorem fillF_zero (n : Nat) : fillF n 0 = allF n := rfl
theorem fillF_next (n j : Nat) : updF (fillF n j) (2 + j) false = fillF n (j + 1) := by
  funext a
  unfold updF fillF
  by_cases e : a = 2 + j
  · subst e
    rw [if_pos rfl, decide_eq_false (show ¬ 2 + (j + 1) ≤ 2 + j by omega)]; rfl
  · rw [if_neg e]
    congr 1
    exact decide_eq_decide.2 (by omega)
theorem fillF_low (n j : Nat) (h : 2 + j < n) : fillF n j (2 + j) = true ∧ ∀ x, x < 2 + j → fillF n j x = false := by
  refine ⟨by unfold fillF; simp [h], fun x hx => ?_⟩
  unfold fillF
  rw [decide_eq_false (by omega)]; rfl
theorem cnt_fill (n j : Nat) : ∀ m, m ≤ n → cnt (fillF n j) m = m - (2 + j)
  | 0, _ => by simp [cnt]
  | m + 1, h => by
    rw [cnt, cnt_fill n j m (by omega)]
    unfold fillF
    by_cases h2 : 2 + j ≤ m
    · rw [decide_eq_true h2, decide_eq_true (show m < n by omega)]; simp; omega
    · rw [decide_eq_false h2, if_neg (by simp)]; omega
theorem nodes_at {w w' : World} {x : List NodeV} {a : Option Addr} {n c i : Nat} (h : SlR RNode 4 w x a n c) (hb : Below w.heap.size w w') (hi : i < n) :
    ∃ b off q k v p, a = some ⟨b, off, none⟩ ∧ x[i]? = some q ∧ w'.rangeAt b (off + i * 4) [.bool q.lf, k, v, p] ∧ NR w' k v p q ∧ NB q := by
  have hl : i < x.length := by rw [h.len]; exact hi
  obtain ⟨b, off, cs, h1, h2, _, h5⟩ := h.here i hl
  obtain ⟨k, v, p, rfl, hn, hnb⟩ := h2
  exact ⟨b, off, x[i], k, v, p, h1, List.getElem?_eq_getElem hl, fun j v hj => (hb.cell (block_lt_of_cell (h5 j v hj))).trans (h5 j v hj), hn.below hb, hnb⟩
theorem index_node (b off len cap i : Nat) (h : i < len) (W : World) : (Instr.indexAt 72 (.slice (some ⟨b, off, none⟩) len cap) (.int .i64 (i : Int))).run Tryz.prog W = .ok (.pointer (some ⟨b, off + i * 4, none⟩)) W := by
  obtain ⟨i0, hi, hs⟩ := Option.map_eq_some_iff.1 (show (Tryz.prog.info? 38).map (·.size) = some 4 by kernel_rfl)
  simp [Instr.indexAt, asIntOf, run_underlying Tryz.underlying72, sizeOf, typeInfo, hi, hs, h, Addr.add_mid]
theorem opn_nodes : Opn 72 (RSl RNode 4) := opn_slice 4 Tryz.underlying72 (by kernel_rfl) (by decide) (of_decide_eq_true (by kernel_rfl)) opn_node
end Go.Proofs.YtgckapolpifbkaaGreatDoor
