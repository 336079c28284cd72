/-
  Aggregates that are built of parts: a write that waits, a slice of one.
-/
import Derived.Test.YtmfpdbmohebodaaPRead
import Derived.Great.BuildSlice
namespace Go.Proofs.Ytmfpdbmohebodaa
open Go.RowKit

theorem fold_at (off : Nat) : ∀ (xs : List Value) (s : Nat) (C : Array Value) (i : Nat),
    ((xs.zipIdx s).foldl (fun cs (p : Value × Nat) => cs.setIfInBounds (off + p.2) p.1) C)[i]? = if i < C.size ∧ off + s ≤ i ∧ i < off + s + xs.length then xs[i - (off + s)]? else C[i]?
  | [], s, C, i => by simp; omega
  | x :: xs, s, C, i => by
    rw [List.zipIdx_cons, List.foldl_cons, fold_at off xs (s + 1) _ i]
    simp only [Array.size_setIfInBounds, List.length_cons, Array.getElem?_setIfInBounds]
    by_cases h1 : i < C.size
    · by_cases h2 : i = off + s
      · subst h2
        simp [h1]; omega
      · by_cases h3 : off + s ≤ i ∧ i < off + s + (xs.length + 1)
        · rw [if_pos (by omega), if_pos (by omega), show i - (off + s) = i - (off + (s + 1)) + 1 by omega, List.getElem?_cons_succ]
        · rw [if_neg (by omega), if_neg (by omega), if_neg (by omega)]
    · simp only [h1, false_and, if_false]
      split
      · rename_i e
        rw [if_neg (by omega), Array.getElem?_eq_none (by omega)]
      · rfl
theorem zero_len : (zeroY 512).length = 512 := List.length_replicate
theorem fold_all (v C : Array Value) (off : Nat) (h : off + v.size ≤ C.size) (D : Array Value) (hD : ∀ i, D[i]? = if off ≤ i ∧ i < off + v.size then v[i - off]? else C[i]?) :
    v.zipIdx.foldl (fun cs (p : Value × Nat) => cs.setIfInBounds (off + p.2) p.1) C = D := by
  apply Array.ext_getElem?
  intro i
  have e : v.zipIdx.foldl (fun cs (p : Value × Nat) => cs.setIfInBounds (off + p.2) p.1) C = (v.toList.zipIdx 0).foldl (fun cs (p : Value × Nat) => cs.setIfInBounds (off + p.2) p.1) C := by
    rw [← Array.foldl_toList]; simp
  rw [e, fold_at, hD]
  simp only [Nat.add_zero, Array.length_toList, Array.getElem?_toList]
  by_cases h1 : off ≤ i ∧ i < off + v.size
  · rw [if_pos (by omega), if_pos h1]
  · rw [if_neg (by omega), if_neg h1]
theorem fill_cons (place : Nat → Option (Nat × Nat)) (C D v : Array Value) (x : Value) (i off size : Nat) (rest : List (Nat × Value)) (hx : x.cells = v) (hp : place i = some (off, size)) (hs : v.size = size) (h : off + v.size ≤ C.size) (hD : ∀ i, D[i]? = if off ≤ i ∧ i < off + v.size then v[i - off]? else C[i]?) :
    Instr.fill place C ((i, x) :: rest) = Instr.fill place D rest := by
  subst hx
  rw [Instr.fill, hp]
  dsimp only
  rw [if_neg (by simp [hs]; omega)]
  rw [fold_all _ C off h D hD]
theorem wrow_size (p : Nat × List (BitVec 8)) (h : p.2.length = 512) : (wrow p).size = 513 := by rw [wrow, List.size_toArray, wcell_length p h]
/-- A row of as many cells, laid whole. -/
theorem fill_one (C v : Array Value) (size : Nat) (hv : v.size = size) (hc : C.size = size) : Instr.fill (fun i => some (i * size, size)) C [(0, .agg v)] = some v := by
  rw [fill_cons _ C v v (.agg v) 0 (0 * size) size [] rfl rfl hv (by omega) (fun i => by
    by_cases h : i < v.size
    · rw [if_pos (by omega)]; simp
    · rw [if_neg (by omega), Array.getElem?_eq_none (by omega), Array.getElem?_eq_none (by omega)])]
  rfl
theorem fill_write' (a : Nat) (l Z : List (BitVec 8)) (hl : l.length = 512) (hz : Z.length = 512) : Instr.fill (#[(0, 1), (1, 512)][·]?) (wrow (0, Z)) [(0, .int .u32 (a : Int)), (1, .agg (yvs l))] = some (wrow (a, l)) := by
  have z1 : (wrow (0, Z)).size = 513 := wrow_size _ hz
  have z2 : (wrow (a, Z)).size = 513 := wrow_size _ hz
  rw [fill_cons _ _ (wrow (a, Z)) #[.int .u32 (a : Int)] (.int .u32 (a : Int)) 0 0 1 _ rfl rfl rfl (by rw [z1]; exact Nat.le_of_ble_eq_true rfl) (fun i => by
    unfold wrow wcell
    cases i with
    | zero => simp
    | succ i => simp)]
  rw [fill_cons _ _ (wrow (a, l)) (yvs l) (.agg (yvs l)) 1 1 512 _ rfl rfl (by rw [yvs_size, hl]) (by rw [yvs_size, hl, z2]; decide) (fun i => by
    unfold wrow wcell yvs
    cases i with
    | zero => simp
    | succ i =>
      by_cases h : i < l.length
      · rw [if_pos (by simp; omega)]; simp
      · rw [if_neg (by simp; omega)]
        simp only [List.getElem?_toArray, List.getElem?_cons_succ]
        rw [List.getElem?_eq_none (by simp; omega), List.getElem?_eq_none (by simp [hz]; omega)])]
  rfl
theorem fill_write (a : Nat) (l : List (BitVec 8)) (hl : l.length = 512) : Instr.fill (#[(0, 1), (1, 512)][·]?) (wrow (0, zeroY 512)) [(0, .int .u32 (a : Int)), (1, .agg (yvs l))] = some (wrow (a, l)) := fill_write' a l _ hl zero_len
theorem built_pwrite (parts : List (Nat × Value)) : Try.prog.built 79 parts = Instr.fill (#[(0, 1), (1, 512)][·]?) (wrow (0, zeroY 512)) parts := by kernel_rfl
theorem build_pwrite (a : Nat) (l : List (BitVec 8)) (hl : l.length = 512) (W : World) : (Instr.build 79 #[(0, .int .u32 (a : Int)), (1, .agg (yvs l))]).run Try.prog W = .ok (.agg (wrow (a, l))) W :=
  run_build W 79 _ _ (by rw [built_pwrite]; exact fill_write a l hl)
theorem info_pwrite : (Try.prog.info? 79).map (fun i => (i.zero, i.size, i.bytes)) = some (some (.agg (wrow (0, zeroY 512))), 513, 516) := by kernel_rfl
theorem lit_pwrite (p : Nat × List (BitVec 8)) (h : p.2.length = 512) (W : World) : (Instr.buildSlice 69 1 #[(0, .agg (wrow p))]).run Try.prog W = .ok (.slice (some ⟨W.heap.size, 0, none⟩) 1 1) (W.alloc (.cells (wrow p) 79)) := by
  obtain ⟨i, hi, hzz⟩ := Option.map_eq_some_iff.1 info_pwrite
  simp only [Prod.mk.injEq] at hzz
  obtain ⟨hz, hs, hb⟩ := hzz
  refine run_buildSlice W 69 79 1 _ (wrow p) i _ Try.underlying69 hi hz (by rw [hs]; decide) (by rw [hs]; decide) ?_
  rw [hs]
  exact fill_one _ _ 513 (wrow_size p h) (by simp)
theorem info_rwrite : (Try.prog.info? 73).map (fun i => (i.zero, i.size, i.bytes)) = some (some (.agg (wrow (0, zeroY 512))), 513, 516) := by kernel_rfl
theorem lit_rwrite (p : Nat × List (BitVec 8)) (h : p.2.length = 512) (W : World) : (Instr.buildSlice 46 1 #[(0, .agg (wrow p))]).run Try.prog W = .ok (.slice (some ⟨W.heap.size, 0, none⟩) 1 1) (W.alloc (.cells (wrow p) 73)) := by
  obtain ⟨i, hi, hzz⟩ := Option.map_eq_some_iff.1 info_rwrite
  simp only [Prod.mk.injEq] at hzz
  obtain ⟨hz, hs, hb⟩ := hzz
  refine run_buildSlice W 46 73 1 _ (wrow p) i _ Try.underlying46 hi hz (by rw [hs]; decide) (by rw [hs]; decide) ?_
  rw [hs]
  exact fill_one _ _ 513 (wrow_size p h) (by simp)
theorem parr_ptr (ad : Addr) (cap : Nat) (W : World) : (Instr.arrayAt 74 (.slice (some ad) 512 cap)).run Try.prog W = .ok (.pointer (some ad)) W := by
  simp [Instr.arrayAt, run_underlying Try.underlying74]
end Go.Proofs.Ytmfpdbmohebodaa
