/-
  Rows of bytes in memory, held as BitVec 8.
-/
import Derived.Test.YtbnclmlbennhaaaBlk
import Derived.Test.YtbnclmlbennhaaaRows
import Derived.WalkKit
import Derived.WalkSpells
import Derived.WalkLawsBesides
import Derived.Lib.Hide
import Derived.Laws.Tables
import Derived.Laws.Rows
import Derived.Maps.AppendAt
import Derived.OwnWalk
import Derived.Deep.MidRow
import Derived.Deep.QuietTactic
import Derived.BigQuiet
import Derived.BigRegion
import Derived.IntWalk
import Derived.WalkSmall
import Derived.Deep.RegionHeld3
import Derived.Deep.RegionLaw
import Derived.Laws.CopyOwn
namespace Go.Proofs.Ytbnclmlbennhaaa
set_option maxRecDepth 4000
open Go.RowKit

def yvs (l : List (BitVec 8)) : Array Value := (l.map fun b => Value.int .u8 (yv b)).toArray
theorem yvs_size (l : List (BitVec 8)) : (yvs l).size = l.length := by simp [yvs]
theorem yvs_at (l : List (BitVec 8)) (k : Nat) (h : k < l.length) : (yvs l)[k]? = some (.int .u8 (yv (l.getD k 0))) := by simp [yvs, h]
theorem yvs_one (l : List (BitVec 8)) : (yvs l).all (·.oneCell') = true := by
  rw [Array.all_eq_true_iff_forall_mem]
  intro v hv
  simp only [yvs, List.mem_toArray, List.mem_map] at hv
  obtain ⟨n, _, rfl⟩ := hv
  rfl
theorem yvs_zero (n : Nat) : yvs (zeroY n) = Array.replicate n (.int .u8 0) := by
  apply Array.ext'
  simp [yvs, zeroY]; exact .inr rfl
/-- Block g is a row of type t that holds these bytes. -/
def ArrY (w : World) (g t : Nat) (l : List (BitVec 8)) : Prop := w.heap[g]? = some (.cells (yvs l) t (0, 0))
theorem ArrY.cell {w : World} {g t : Nat} {l : List (BitVec 8)} (h : ArrY w g t l) {k : Nat} (hk : k < l.length) : w.cell? ⟨g, k, none⟩ = some (.int .u8 (yv (l.getD k 0))) := by
  rw [cell_of_row w g k _ _ _ h]; exact yvs_at l k hk
theorem ArrY.free {w : World} {g t : Nat} {l : List (BitVec 8)} (h : ArrY w g t l) (k : Nat) : w.frozen? ⟨g, k, none⟩ = false := frozen_of_row w g k _ _ h
theorem ArrY.set {w : World} {g t : Nat} {l : List (BitVec 8)} (h : ArrY w g t l) (k : Nat) (v : BitVec 8) : ArrY (w.setCell ⟨g, k, none⟩ (.int .u8 (yv v))) g t (l.set k v) := by
  unfold ArrY
  rw [heap_setCell_same w g k _ _ _ h]
  congr 2
  simp only [yvs, List.setIfInBounds_toArray, List.map_set]
theorem ArrY.other {w : World} {g t : Nat} {l : List (BitVec 8)} (h : ArrY w g t l) (a : Addr) (v : Value) (hne : g ≠ a.block) : ArrY (w.setCell a v) g t l := by
  unfold ArrY
  rw [heap_setCell_other w a g v hne]; exact h
theorem ArrY.below {w' w : World} {g t B : Nat} {l : List (BitVec 8)} (h : ArrY w g t l) (hb : Below B w w') (hg : g < B) : ArrY w' g t l := (hb.block g hg).trans h
theorem ArrY.range {w : World} {g t : Nat} {l : List (BitVec 8)} (h : ArrY w g t l) (o n : Nat) : w.rangeAt g o (yvs ((l.drop o).take n)).toList := by
  intro j v hv
  rw [cell_of_row w g (o + j) _ _ _ h]
  have hj : j < ((l.drop o).take n).length := by
    have := (List.getElem?_eq_some_iff.1 hv).1
    simpa [yvs] using this
  rw [Array.getElem?_toList, yvs_at _ _ hj] at hv
  have h2 : o + j < l.length := by simp at hj; omega
  rw [yvs_at _ _ h2, ← hv]
  congr 3
  simp at hj
  simp [List.getD, hj, h2]
theorem ArrY.all {w : World} {g t : Nat} {l : List (BitVec 8)} (h : ArrY w g t l) : w.rangeAt g 0 (yvs l).toList := fun j v hv => by
  rw [cell_of_row w g (0 + j) _ _ _ h, Nat.zero_add, ← Array.getElem?_toList]; exact hv
theorem ArrY.there {w : World} {g t : Nat} {l : List (BitVec 8)} (h : ArrY w g t l) (o n : Nat) (hn : o + n ≤ l.length) : w.there g o n := fun j hj => ⟨by rw [h.cell (k := o + j) (by omega)]; rfl, h.free _⟩
theorem ArrY.put (t : Nat) (g : Nat) (ys : List (BitVec 8)) : ∀ (o : Nat) (l : List (BitVec 8)) (w : World), ArrY w g t l → o + ys.length ≤ l.length → ArrY (w.setCells g o (yvs ys).toList) g t (putL l o ys) := by
  induction ys with
  | nil => intro o l w h _; simpa [yvs, putL, World.setCells] using h
  | cons y ys ih =>
    intro o l w h hl
    simp only [List.length_cons] at hl
    rw [← putL_cons l o y ys (by omega)]
    exact ih (o + 1) _ _ (h.set o y) (by rw [List.length_set]; omega)
theorem below_setCells {B : Nat} {a : World} {g : Nat} (hg : B ≤ g) : ∀ (vs : List Value) (o : Nat) (w : World), Below B a w → Below B a (w.setCells g o vs)
  | [], _, _, h => h
  | v :: vs, o, _, h => below_setCells hg vs (o + 1) _ (h.setCell (p := ⟨g, o, none⟩) hg v)

/-- An index into an array that is held by value. -/
theorem yindex_agg {P : Program} (T E : TypeId) (n : Nat) (cs : Array Value) (k : Nat) (v : Value) (i0 : TypeInfo) (d : TypeDesc) (hu : P.underlying T = some (.array n E)) (hE : P.underlying E = some d)
    (hd : (match d with | .struct _ | .array _ _ => true | _ => false) = false) (hi : P.info? E = some i0) (hs : i0.size = 1) (hk : k < n) (hv : cs[k]? = some v) (w : World) :
    (Instr.index T (.agg cs) (.int .i64 (k : Int))).run P w = .ok v w := by
  have hagg : (isAgg E).run P w = .ok false w := by
    unfold isAgg
    rw [Sem.run_bind, run_underlying hE w]
    cases d <;> simp_all
  have hpart : (part E cs k).run P w = .ok v w := by
    unfold part
    rw [Sem.run_bind, hagg]
    simp [hv]
  simp [Instr.index, asIntOf, run_underlying hu, hk, sizeOf, typeInfo, hi, hs, hpart]
theorem yone : (Try.prog.info? 5).map (·.size) = some 1 := by kernel_rfl
theorem ytwo (w : World) (A B : Obj) : ((w.alloc A).alloc B).heap[w.heap.size]? = some A ∧ ((w.alloc A).alloc B).heap[w.heap.size + 1]? = some B ∧ ((w.alloc A).alloc B).heap.size = w.heap.size + 2 ∧ Below w.heap.size w ((w.alloc A).alloc B) := by
  refine ⟨?_, ?_, by simp, ((Below.refl w.heap.size w).alloc (Nat.le_refl _) A).alloc (by simp) B⟩
  · rw [Below.heap_alloc _ _ _ (by simp)]; exact heap_alloc_new w A
  · have := heap_alloc_new (w.alloc A) B
    simpa using this
theorem ygen2 {P : Program} {c : Code} {Q : Exit → Act → World → Prop} {a : Act} {w : World} {A B : Obj}
    (h : ∀ W0 : World, W0.heap[w.heap.size]? = some A ∧ W0.heap[w.heap.size + 1]? = some B ∧ W0.heap.size = w.heap.size + 2 ∧ Below w.heap.size w W0 → c.wp P Q a W0) :
    c.wp P Q a ((w.alloc A).alloc B) := h _ (ytwo w A B)
theorem ythree (w : World) (A B C : Obj) : (((w.alloc A).alloc B).alloc C).heap[w.heap.size]? = some A ∧ (((w.alloc A).alloc B).alloc C).heap[w.heap.size + 1]? = some B ∧
    (((w.alloc A).alloc B).alloc C).heap[w.heap.size + 1 + 1]? = some C ∧ (((w.alloc A).alloc B).alloc C).heap.size = w.heap.size + 3 ∧ Below w.heap.size w (((w.alloc A).alloc B).alloc C) := by
  refine ⟨?_, ?_, ?_, by simp, (((Below.refl w.heap.size w).alloc (Nat.le_refl _) A).alloc (by simp) B).alloc (by simp; omega) C⟩
  · rw [Below.heap_alloc _ _ _ (by simp; omega), Below.heap_alloc _ _ _ (by simp)]; exact heap_alloc_new w A
  · rw [Below.heap_alloc _ _ _ (by simp)]
    have := heap_alloc_new (w.alloc A) B
    simpa using this
  · have := heap_alloc_new ((w.alloc A).alloc B) C
    simpa using this
theorem ygen3 {P : Program} {c : Code} {Q : Exit → Act → World → Prop} {a : Act} {w : World} {A B C : Obj}
    (h : ∀ W0 : World, W0.heap[w.heap.size]? = some A ∧ W0.heap[w.heap.size + 1]? = some B ∧ W0.heap[w.heap.size + 1 + 1]? = some C ∧ W0.heap.size = w.heap.size + 3 ∧ Below w.heap.size w W0 → c.wp P Q a W0) :
    c.wp P Q a (((w.alloc A).alloc B).alloc C) := h _ (ythree w A B C)
theorem ybelow_drewN {B : Nat} {a w : World} (h : Below B a w) (n : Nat) : Below B a (w.drewN n) := ⟨h.os, h.tape, h.output, h.size, h.block⟩
/-- Behind draws the world is a letter again, with the same memory. -/
theorem ygen_drewN {P : Program} {c : Code} {Q : Exit → Act → World → Prop} {a : Act} {w : World} {n : Nat} (h : ∀ W : World, (∀ k : Nat, W.heap[k]? = w.heap[k]?) ∧ W.heap.size = w.heap.size ∧ (∀ B a, Below B a w → Below B a W) → c.wp P Q a W) : c.wp P Q a (w.drewN n) :=
  h _ ⟨fun _ => rfl, rfl, fun _ _ hb => ybelow_drewN hb n⟩
theorem ybelow_row {B : Nat} {a w : World} (h : Below B a w) {g : Nat} (hg : B ≤ g) (cs : Array Value) : Below B a (w.setRow g cs) :=
  h.trans ⟨rfl, rfl, rfl, by simp, fun k hk => setRow_other _ g k cs (by omega)⟩
/-- Nothing but draws came between. -/
def Still (w w' : World) : Prop := ∀ B, Below B w w'
theorem Still.refl (w : World) : Still w w := fun B => Below.refl B w
theorem Still.row {w w' : World} (h : Still w w') (k : Nat) : w'.heap[k]? = w.heap[k]? := (h (k + 1)).block k (by omega)
end Go.Proofs.Ytbnclmlbennhaaa
