/-
  Rows of words and of bytes in memory; an index into an array by value; what is kept where one block alone is written.
-/
import Derived.Test.YtpmeiadnikenmaaDoorSha
import Derived.Test.YtpmeiadnikenmaaDoorRows
import Derived.WalkKit
import Derived.WalkSpells
import Derived.WalkLawsBesides
import Derived.Lib.Hide
import Derived.Laws.Tables
import Derived.Laws.Rows
import Derived.Maps.AppendAt
import Derived.OwnWalk
import Derived.Deep.MidRow
import Derived.Deep.QuietTactic
import Derived.BigQuiet
import Derived.BigRegion
import Derived.IntWalk
import Derived.WalkSmall
import Derived.Deep.RegionHeld3
import Derived.Deep.RegionLaw
import Derived.Laws.CopyOwn
namespace Go.Proofs.YtpmeiadnikenmaaDoor
open Go.RowKit

def wvs (xs : List (BitVec 32)) : Array Value := (xs.map fun b => Value.int .u32 (wv b)).toArray
def u8s (l : List Int) : Array Value := (l.map (Value.int .u8)).toArray
theorem wvs_size (xs : List (BitVec 32)) : (wvs xs).size = xs.length := by simp [wvs]
theorem u8s_size (l : List Int) : (u8s l).size = l.length := by simp [u8s]
theorem wvs_at (xs : List (BitVec 32)) (k : Nat) (h : k < xs.length) : (wvs xs)[k]? = some (.int .u32 (wv (xs.getD k 0))) := by simp [wvs, h]
theorem u8s_at (l : List Int) (k : Nat) (h : k < l.length) : (u8s l)[k]? = some (.int .u8 (l.getD k 0)) := by simp [u8s, h]
theorem wvs_one (xs : List (BitVec 32)) : (wvs xs).all (·.oneCell') = true := by
  rw [Array.all_eq_true_iff_forall_mem]
  intro v hv
  simp only [wvs, List.mem_toArray, List.mem_map] at hv
  obtain ⟨n, _, rfl⟩ := hv
  rfl
theorem u8s_one (l : List Int) : (u8s l).all (·.oneCell') = true := by
  rw [Array.all_eq_true_iff_forall_mem]
  intro v hv
  simp only [u8s, List.mem_toArray, List.mem_map] at hv
  obtain ⟨n, _, rfl⟩ := hv
  rfl
/-- Block g is a row of type t that holds these words. -/
def ArrW (w : World) (g t : Nat) (xs : List (BitVec 32)) : Prop := w.heap[g]? = some (.cells (wvs xs) t (0, 0))
theorem ArrW.cell {w : World} {g t : Nat} {xs : List (BitVec 32)} (h : ArrW w g t xs) {k : Nat} (hk : k < xs.length) : w.cell? ⟨g, k, none⟩ = some (.int .u32 (wv (xs.getD k 0))) := by
  rw [cell_of_row w g k _ _ _ h]; exact wvs_at xs k hk
theorem ArrW.free {w : World} {g t : Nat} {xs : List (BitVec 32)} (h : ArrW w g t xs) (k : Nat) : w.frozen? ⟨g, k, none⟩ = false := frozen_of_row w g k _ _ h
theorem ArrW.set {w : World} {g t : Nat} {xs : List (BitVec 32)} (h : ArrW w g t xs) (k : Nat) (v : BitVec 32) : ArrW (w.setCell ⟨g, k, none⟩ (.int .u32 (wv v))) g t (xs.set k v) := by
  unfold ArrW
  rw [heap_setCell_same w g k _ _ _ h]
  congr 2
  simp only [wvs, List.setIfInBounds_toArray, List.map_set]
theorem ArrW.below {w' w : World} {g t B : Nat} {xs : List (BitVec 32)} (h : ArrW w g t xs) (hb : Below B w w') (hg : g < B) : ArrW w' g t xs := (hb.block g hg).trans h
/-- Block g is a row of type t that holds these bytes. -/
def ArrB (w : World) (g t : Nat) (l : List Int) : Prop := w.heap[g]? = some (.cells (u8s l) t (0, 0))
theorem ArrB.cell {w : World} {g t : Nat} {l : List Int} (h : ArrB w g t l) {k : Nat} (hk : k < l.length) : w.cell? ⟨g, k, none⟩ = some (.int .u8 (l.getD k 0)) := by
  rw [cell_of_row w g k _ _ _ h]; exact u8s_at l k hk
theorem ArrB.free {w : World} {g t : Nat} {l : List Int} (h : ArrB w g t l) (k : Nat) : w.frozen? ⟨g, k, none⟩ = false := frozen_of_row w g k _ _ h
theorem ArrB.set {w : World} {g t : Nat} {l : List Int} (h : ArrB w g t l) (k : Nat) (v : Int) : ArrB (w.setCell ⟨g, k, none⟩ (.int .u8 v)) g t (l.set k v) := by
  unfold ArrB
  rw [heap_setCell_same w g k _ _ _ h]
  congr 2
  simp only [u8s, List.setIfInBounds_toArray, List.map_set]
theorem ArrB.below {w' w : World} {g t B : Nat} {l : List Int} (h : ArrB w g t l) (hb : Below B w w') (hg : g < B) : ArrB w' g t l := (hb.block g hg).trans h

/-- An index into an array that is held by value. -/
theorem index_agg {P : Program} (T E : TypeId) (n : Nat) (cs : Array Value) (k : Nat) (v : Value) (i0 : TypeInfo) (d : TypeDesc) (hu : P.underlying T = some (.array n E)) (hE : P.underlying E = some d)
    (hd : (match d with | .struct _ | .array _ _ => true | _ => false) = false) (hi : P.info? E = some i0) (hs : i0.size = 1) (hk : k < n) (hv : cs[k]? = some v) (w : World) :
    (Instr.index T (.agg cs) (.int .i64 (k : Int))).run P w = .ok v w := by
  have hagg : (isAgg E).run P w = .ok false w := by
    unfold isAgg
    rw [Sem.run_bind, run_underlying hE w]
    cases d <;> simp_all
  have hpart : (part E cs k).run P w = .ok v w := by
    unfold part
    rw [Sem.run_bind, hagg]
    simp [hv]
  simp [Instr.index, asIntOf, run_underlying hu, hk, sizeOf, typeInfo, hi, hs, hpart]

theorem three_blocks (w : World) (A B C : Obj) : (((w.alloc A).alloc B).alloc C).heap[w.heap.size]? = some A ∧ (((w.alloc A).alloc B).alloc C).heap[w.heap.size + 1]? = some B ∧
    (((w.alloc A).alloc B).alloc C).heap[w.heap.size + 1 + 1]? = some C ∧ (((w.alloc A).alloc B).alloc C).heap.size = w.heap.size + 3 ∧ Below w.heap.size w (((w.alloc A).alloc B).alloc C) := by
  refine ⟨?_, ?_, ?_, by simp, (((Below.refl w.heap.size w).alloc (Nat.le_refl _) A).alloc (by simp) B).alloc (by simp; omega) C⟩
  · rw [Below.heap_alloc _ _ _ (by simp; omega), Below.heap_alloc _ _ _ (by simp)]; exact heap_alloc_new w A
  · rw [Below.heap_alloc _ _ _ (by simp)]
    have := heap_alloc_new (w.alloc A) B
    simpa using this
  · have := heap_alloc_new ((w.alloc A).alloc B) C
    simpa using this
theorem gen3 {P : Program} {c : Code} {Q : Exit → Act → World → Prop} {a : Act} {w : World} {A B C : Obj}
    (h : ∀ W0 : World, W0.heap[w.heap.size]? = some A ∧ W0.heap[w.heap.size + 1]? = some B ∧ W0.heap[w.heap.size + 1 + 1]? = some C ∧ W0.heap.size = w.heap.size + 3 ∧ Below w.heap.size w W0 → c.wp P Q a W0) :
    c.wp P Q a (((w.alloc A).alloc B).alloc C) := h _ (three_blocks w A B C)
def zeros (n : Nat) : List (BitVec 32) := List.replicate n 0

/-- What is kept where draws alone came between. -/
theorem below_drewN {B : Nat} {a w : World} (h : Below B a w) (n : Nat) : Below B a (w.drewN n) := ⟨h.os, h.tape, h.output, h.size, h.block⟩
/-- A new row that was filled at once. -/
theorem gen_fresh {P : Program} {c : Code} {Q : Exit → Act → World → Prop} {a : Act} {w : World} {old cs : Array Value} {T : TypeId}
    (h : ∀ W : World, W.heap[w.heap.size]? = some (.cells cs T (0, 0)) ∧ W.heap.size = w.heap.size + 1 ∧ Below w.heap.size w W → c.wp P Q a W) :
    c.wp P Q a ((w.alloc (.cells old T)).setRow w.heap.size cs) :=
  h _ ⟨setRow_heap _ _ _ cs _ _ (heap_alloc_new w _), by simp, ((Below.refl w.heap.size w).alloc (Nat.le_refl _) _).trans ⟨rfl, rfl, rfl, by simp, fun k hk => setRow_other _ _ k cs (by omega)⟩⟩
/-- Behind draws the world is a letter again, with the same memory. -/
theorem gen_drewN {P : Program} {c : Code} {Q : Exit → Act → World → Prop} {a : Act} {w : World} {n : Nat} (h : ∀ W : World, (∀ k : Nat, W.heap[k]? = w.heap[k]?) ∧ W.heap.size = w.heap.size ∧ (∀ B a, Below B a w → Below B a W) → c.wp P Q a W) : c.wp P Q a (w.drewN n) :=
  h _ ⟨fun _ => rfl, rfl, fun _ _ hb => below_drewN hb n⟩
/-- What a callee left as it was, behind draws that were joined already. -/
theorem still_again {P : Program} {f : FuncId} {args : Array Value} {w : World} {a n : Nat} {v : Value} (h : ∀ W : World, Calls P f args W fun e w' => e = .returned v ∧ w' = W) :
    Calls P f args (w.drewN (a + n)) fun e w'' => e = .returned v ∧ ∃ m, w'' = w.drewN (a + m) :=
  (h _).mono fun _ _ ⟨he, hm⟩ => ⟨he, n, hm⟩
end Go.Proofs.YtpmeiadnikenmaaDoor
