/-
  Blocks sealed: the structs of the laws by their parts; keys put together.
-/
import Derived.Test.YtfgdddejpdjllaaDoorEi
namespace Go.Proofs.YtfgdddejpdjllaaDoor
set_option maxRecDepth 4000
set_option linter.unusedVariables false
open Go.ChangeShapes Go.WideShapes Go.ChangeAt Go.RowKit

theorem range_app {W : World} {b o : Nat} {A Z : List Value} (h : W.rangeAt b o (A ++ Z)) : W.rangeAt b o A ∧ W.rangeAt b (o + A.length) Z := by
  refine ⟨fun j v hj => h j v ?_, fun j v hj => ?_⟩
  · rw [List.getElem?_append_left (List.getElem?_eq_some_iff.1 hj).1]; exact hj
  · have := h (A.length + j) v (by rw [List.getElem?_append_right (Nat.le_add_right _ _), Nat.add_sub_cancel_left]; exact hj)
    rwa [← Nat.add_assoc] at this
theorem fill_head (k Z : List Value) (hk : k.length = 32) (hz : Z.length = 64) :
    Instr.fill (#[(0, 32), (32, 32)][·]?) Z.toArray [(0, .agg k.toArray)] = some (k ++ Z.drop 32).toArray := by
  rw [fill_cons _ _ (k ++ Z.drop 32).toArray k.toArray (.agg k.toArray) 0 0 32 _ rfl rfl (by simp [hk]) (by simp [hk, hz]) (fun i => by
    simp only [List.getElem?_toArray, List.size_toArray, hk, Nat.sub_zero]
    by_cases h : i < 32
    · rw [if_pos (by omega), List.getElem?_append_left (by omega)]
    · rw [if_neg (by omega), List.getElem?_append_right (by omega), List.getElem?_drop, hk, show 32 + (i - 32) = i by omega])]
  rfl
theorem yvs_zero32 : (List.replicate 64 (Value.int .u8 0)).drop 32 = (zeroY 32).map (fun b => Value.int .u8 (yv b)) := by kernel_rfl
theorem penc_build (k : List (BitVec 8)) (hk : k.length = 32) (W : World) : (Instr.build 28 #[(0, .agg (yvs k))]).run Tryd.prog W = .ok (.agg (yvs (k ++ zeroY 32))) W := by
  refine run_build W 28 _ _ ?_
  rw [show ∀ parts : List (Nat × Value), Tryd.prog.built 28 parts = Instr.fill (#[(0, 32), (32, 32)][·]?) (List.replicate 64 (Value.int .u8 0)).toArray parts from fun _ => by kernel_rfl]
  have h := fill_head (k.map (fun b => Value.int .u8 (yv b))) (List.replicate 64 (Value.int .u8 0)) (by simp [hk]) (by simp)
  rw [yvs_zero32, ← List.map_append] at h
  exact h
theorem renc_build (k : List (BitVec 8)) (hk : k.length = 32) (W : World) : (Instr.build 31 #[(0, .agg (yvs k))]).run Tryd.prog W = .ok (.agg (yvs (k ++ zeroY 32))) W := by
  refine run_build W 31 _ _ ?_
  rw [show ∀ parts : List (Nat × Value), Tryd.prog.built 31 parts = Instr.fill (#[(0, 32), (32, 32)][·]?) (List.replicate 64 (Value.int .u8 0)).toArray parts from fun _ => by kernel_rfl]
  have h := fill_head (k.map (fun b => Value.int .u8 (yv b))) (List.replicate 64 (Value.int .u8 0)) (by simp [hk]) (by simp)
  rw [yvs_zero32, ← List.map_append] at h
  exact h
theorem zero_arr32 (W : World) : (zeroValue 24).run Tryd.prog W = .ok (.agg (yvs (zeroY 32))) W := by kernel_rfl
theorem size_arr32 (l : List (BitVec 8)) (h : l.length = 32) : (Tryd.prog.info? 24).map (·.size) = some (yvs l).size := size_k32 l h
theorem fresh_one (w : World) (o1 c1 : Array Value) (T1 : TypeId) : ∀ W, W = (w.alloc (.cells o1 T1)).setRow w.heap.size c1 → W.heap[w.heap.size]? = some (.cells c1 T1 (0, 0)) ∧ Below w.heap.size w W := by
  rintro W rfl
  exact ⟨setRow_heap _ _ _ c1 _ _ (heap_alloc_new w _), ybelow_row ((Below.refl w.heap.size w).alloc (Nat.le_refl _) _) (Nat.le_refl _) _⟩
theorem setCells_block {g k : Nat} (hne : k ≠ g) : ∀ (vs : List Value) (o : Nat) (w : World), (w.setCells g o vs).heap[k]? = w.heap[k]?
  | [], _, _ => rfl
  | v :: vs, o, w => (setCells_block hne vs (o + 1) _).trans (heap_setCell_other w ⟨g, o, none⟩ k v hne)
/-- A pointer with another sum. -/
def ptrSum (P : PtrV) (l : List Int) : PtrV := ⟨P.ad, P.bi, hashS l, P.a0, P.b0, ⟨hashS_length l, hashS_byt l⟩⟩
theorem sum_there {W : World} {Q t : Nat} {P : PtrV} (h : W.heap[Q]? = some (.cells (ptrRow P).toArray t (0, 0))) : W.there Q 2 32 := by
  intro j hj
  refine ⟨?_, frozen_of_row _ _ _ _ _ h⟩
  rw [cell_of_row W Q _ _ _ _ h, List.getElem?_toArray, List.getElem?_eq_getElem (by rw [ptrRow_length]; omega)]
  rfl
theorem sum_store {W : World} {Q t : Nat} {P : PtrV} (l : List Int) (h : W.heap[Q]? = some (.cells (ptrRow P).toArray t (0, 0))) : (W.setCells Q 2 (u8s (hashS l)).toList).heap[Q]? = some (.cells (ptrRow (ptrSum P l)).toArray t (0, 0)) := by
  have hl : (u8s (hashS l)).toList.length = 32 := by rw [Array.length_toList, u8s_size, hashS_length]
  rw [heap_setCells Q t _ 2 W _ h (by rw [hl, ptrRow_length]; decide)]
  congr 3
  unfold splice
  rw [hl, List.drop_eq_nil_of_le (by rw [ptrRow_length]; decide), List.append_nil]
  rfl
theorem born12_at {W : World} {B t : Nat} (k : List (BitVec 8)) (bi : Int) (ad : Int) (ba : Option Addr) (bc : Nat) (b : List Int) (h : W.heap[B]? = some (.cells (born12Cells k bi ad ba bc b).toArray t (0, 0))) (hk : k.length = 32) :
    W.rangeAt B 0 (yvs k).toList ∧ W.cell? ⟨B, 32, none⟩ = some (.int .u64 bi) ∧ W.cell? ⟨B, 33, none⟩ = some (.int .u32 ad) ∧ W.cell? ⟨B, 34, none⟩ = some (.slice ba b.length bc) := by
  have h0 := range_of_row h
  unfold born12Cells at h0
  obtain ⟨r0, h1⟩ := range_app h0
  rw [show 0 + (yvs k).toList.length = 32 by rw [Array.length_toList, yvs_size, hk]] at h1
  obtain ⟨r1, h2⟩ := range_app h1
  obtain ⟨r2, h3⟩ := range_app h2
  have r3 := h3
  exact ⟨r0, r1 0 _ rfl, r2 0 _ rfl, r3 0 _ rfl⟩
theorem opened12_at {W : World} {B t : Nat} (k : List (BitVec 8)) (P : PtrV) (ba : Option Addr) (bc : Nat) (b : List Int) (o : Bool) (h : W.heap[B]? = some (.cells (opened12Cells k P ba bc b o).toArray t (0, 0))) (hk : k.length = 32) :
    W.rangeAt B 0 (yvs k).toList ∧ W.rangeAt B 32 (ptrRow P) ∧ W.cell? ⟨B, 66, none⟩ = some (.slice ba b.length bc) ∧ W.cell? ⟨B, 67, none⟩ = some (.bool o) := by
  have h0 := range_of_row h
  unfold opened12Cells at h0
  obtain ⟨r0, h1⟩ := range_app h0
  rw [show 0 + (yvs k).toList.length = 32 by rw [Array.length_toList, yvs_size, hk]] at h1
  obtain ⟨r1, h2⟩ := range_app h1
  rw [show 32 + (ptrRow P).length = 66 by rw [ptrRow_length]] at h2
  obtain ⟨r2, h3⟩ := range_app h2
  have r3 := h3
  exact ⟨r0, r1, r2 0 _ rfl, r3 0 _ rfl⟩
theorem turned12_at {W : World} {B t : Nat} (maa : Option Addr) (mac : Nat) (ma : List Int) (ba : Option Addr) (bc : Nat) (b : List Int) (ad : Int) (at' : Int) (tu : Int) (h : W.heap[B]? = some (.cells (turned12Cells maa mac ma ba bc b ad at' tu).toArray t (0, 0))) :
    W.cell? ⟨B, 0, none⟩ = some (.slice maa ma.length mac) ∧ W.cell? ⟨B, 1, none⟩ = some (.slice ba b.length bc) ∧ W.cell? ⟨B, 2, none⟩ = some (.int .u16 ad) ∧ W.cell? ⟨B, 3, none⟩ = some (.int .u16 at') ∧ W.cell? ⟨B, 4, none⟩ = some (.int .u8 tu) := by
  have h0 := range_of_row h
  unfold turned12Cells at h0
  obtain ⟨r0, h1⟩ := range_app h0
  obtain ⟨r1, h2⟩ := range_app h1
  obtain ⟨r2, h3⟩ := range_app h2
  obtain ⟨r3, h4⟩ := range_app h3
  have r4 := h4
  exact ⟨r0 0 _ rfl, r1 0 _ rfl, r2 0 _ rfl, r3 0 _ rfl, r4 0 _ rfl⟩
theorem stream12_at {W : World} {B t : Nat} (k : List (BitVec 8)) (bi : Int) (ad : Int) (ba : Option Addr) (bc : Nat) (b : List Int) (h : W.heap[B]? = some (.cells (stream12Cells k bi ad ba bc b).toArray t (0, 0))) (hk : k.length = 32) :
    W.rangeAt B 0 (yvs k).toList ∧ W.cell? ⟨B, 32, none⟩ = some (.int .u32 bi) ∧ W.cell? ⟨B, 33, none⟩ = some (.int .u16 ad) ∧ W.cell? ⟨B, 34, none⟩ = some (.slice ba b.length bc) := by
  have h0 := range_of_row h
  unfold stream12Cells at h0
  obtain ⟨r0, h1⟩ := range_app h0
  rw [show 0 + (yvs k).toList.length = 32 by rw [Array.length_toList, yvs_size, hk]] at h1
  obtain ⟨r1, h2⟩ := range_app h1
  obtain ⟨r2, h3⟩ := range_app h2
  have r3 := h3
  exact ⟨r0, r1 0 _ rfl, r2 0 _ rfl, r3 0 _ rfl⟩
theorem two12_at {W : World} {B t : Nat} (k : List (BitVec 8)) (a : Int) (b : Int) (c : Int) (d : Int) (h : W.heap[B]? = some (.cells (two12Cells k a b c d).toArray t (0, 0))) (hk : k.length = 32) :
    W.rangeAt B 0 (yvs k).toList ∧ W.cell? ⟨B, 32, none⟩ = some (.int .u32 a) ∧ W.cell? ⟨B, 33, none⟩ = some (.int .u32 b) ∧ W.cell? ⟨B, 34, none⟩ = some (.int .u16 c) ∧ W.cell? ⟨B, 35, none⟩ = some (.int .u16 d) := by
  have h0 := range_of_row h
  unfold two12Cells at h0
  obtain ⟨r0, h1⟩ := range_app h0
  rw [show 0 + (yvs k).toList.length = 32 by rw [Array.length_toList, yvs_size, hk]] at h1
  obtain ⟨r1, h2⟩ := range_app h1
  obtain ⟨r2, h3⟩ := range_app h2
  obtain ⟨r3, h4⟩ := range_app h3
  have r4 := h4
  exact ⟨r0, r1 0 _ rfl, r2 0 _ rfl, r3 0 _ rfl, r4 0 _ rfl⟩
end Go.Proofs.YtfgdddejpdjllaaDoor
