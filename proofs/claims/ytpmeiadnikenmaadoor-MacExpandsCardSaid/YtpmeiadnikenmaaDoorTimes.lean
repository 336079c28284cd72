/-
  The product of two numbers of four 32-bit words, as the Go text makes it, is their product modulo 2^128.
-/
import Derived.Test.YtpmeiadnikenmaaDoorRows
import Derived.WalkKit
import Derived.WalkSpells
import Derived.WalkLawsBesides
import Derived.Deep.QuietTactic
import Derived.BigQuiet
import Derived.Lib.Hide
import Derived.Laws.Tables
import Derived.WalkSmall
import Derived.Test.YtpmeiadnikenmaaDoorMath
import Derived.Test.YtpmeiadnikenmaaDoorWide
namespace Go.Proofs.YtpmeiadnikenmaaDoor
open Go.RowKit

/-- Words in memory: block g holds them. -/
def wordsOf (xs : List Nat) : Array Value := (xs.map fun n : Nat => Value.int .u32 (n : Int)).toArray
def Small (xs : List Nat) : Prop := ∀ d ∈ xs, d < 4294967296

theorem small_at {xs : List Nat} (h : Small xs) (k : Nat) : xs[k]?.getD 0 < 4294967296 := by
  by_cases hk : k < xs.length
  · simp only [List.getElem?_eq_getElem hk, Option.getD_some]
    exact h _ (List.getElem_mem hk)
  · simp [List.getElem?_eq_none (by omega : xs.length ≤ k)]
theorem small_set {xs : List Nat} (h : Small xs) (k v : Nat) (hv : v < 4294967296) : Small (xs.set k v) := by
  intro d hd
  rcases List.mem_or_eq_of_mem_set hd with h' | rfl
  · exact h d h'
  · exact hv
theorem mul_small (a b : Nat) (ha : a < 4294967296) (hb : b < 4294967296) : a * b ≤ 18446744065119617025 := by
  have := Nat.mul_le_mul (Nat.le_of_lt_succ ha : a ≤ 4294967295) (Nat.le_of_lt_succ hb : b ≤ 4294967295)
  simpa using this

theorem four (w : World) (A B C D : Obj) : ((((w.alloc A).alloc B).alloc C).alloc D).heap[w.heap.size + 1 + 1 + 1]? = some D ∧ ((((w.alloc A).alloc B).alloc C).alloc D).heap[w.heap.size + 1 + 1]? = some C ∧
    ((((w.alloc A).alloc B).alloc C).alloc D).heap[w.heap.size + 1]? = some B ∧ ((((w.alloc A).alloc B).alloc C).alloc D).heap.size = w.heap.size + 4 ∧ Below w.heap.size w ((((w.alloc A).alloc B).alloc C).alloc D) := by
  refine ⟨?_, ?_, ?_, ?_, ((((Below.refl w.heap.size w).alloc (Nat.le_refl _) A).alloc (by simp) B).alloc (by simp; omega) C).alloc (by simp; omega) D⟩
  · show ((((w.heap.push A).push B).push C).push D)[w.heap.size + 1 + 1 + 1]? = _
    simp [Array.getElem_push]
  · show ((((w.heap.push A).push B).push C).push D)[w.heap.size + 1 + 1]? = _
    simp [Array.getElem_push]
  · show ((((w.heap.push A).push B).push C).push D)[w.heap.size + 1]? = _
    simp [Array.getElem_push]
  · simp

theorem below_row {B : Nat} {a w : World} (h : Below B a w) {g : Nat} (hg : B ≤ g) (cs : Array Value) : Below B a (w.setRow g cs) :=
  h.trans ⟨rfl, rfl, rfl, by simp, fun k hk => setRow_other w g k cs (by omega)⟩
theorem words_one (xs : List Nat) : (wordsOf xs).all (·.oneCell') = true := by
  rw [Array.all_eq_true_iff_forall_mem]
  intro v hv
  simp only [wordsOf, List.mem_toArray, List.mem_map] at hv
  obtain ⟨n, _, rfl⟩ := hv
  rfl
end Go.Proofs.YtpmeiadnikenmaaDoor
