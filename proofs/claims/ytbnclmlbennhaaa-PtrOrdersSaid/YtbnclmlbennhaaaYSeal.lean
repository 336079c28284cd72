/-
  The code: Seal and Open.
-/
import Derived.Test.YtbnclmlbennhaaaYRounds
namespace Go.Proofs.Ytbnclmlbennhaaa
set_option maxRecDepth 4000
open Go.RowKit

theorem get8 {α : Type} {a0 a1 a2 a3 a4 a5 a6 a7 a8 : α} : (#[a0, a1, a2, a3, a4, a5, a6, a7, a8] : Array α)[8]? = some a8 := rfl
theorem ygen_row {w : World} {old cs : Array Value} {T : TypeId} : ((w.alloc (.cells old T)).setRow w.heap.size cs).heap[w.heap.size]? = some (.cells cs T (0, 0)) ∧ ((w.alloc (.cells old T)).setRow w.heap.size cs).heap.size = w.heap.size + 1 ∧
    Below w.heap.size w ((w.alloc (.cells old T)).setRow w.heap.size cs) :=
  ⟨setRow_heap (w.alloc (.cells old T)) w.heap.size _ cs _ _ (heap_alloc_new w _), by simp, ybelow_row ((Below.refl w.heap.size w).alloc (Nat.le_refl _) _) (Nat.le_refl _) cs⟩

end Go.Proofs.Ytbnclmlbennhaaa
