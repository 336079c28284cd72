/-
  Plain facts of the stream: a number's bytes as BitVec 8, the stream's bytes; slices of a row that is held as BitVec 8.
-/
import Derived.Test.YtbnclmlbennhaaaYSeal
import Derived.Test.YtbnclmlbennhaaaNum
import Derived.Deep.OwnRows
namespace Go.Proofs.Ytbnclmlbennhaaa
set_option maxRecDepth 4000
open Go.RowKit

/-- n bytes of a number, the highest first. -/
def beY (n x : Nat) : List (BitVec 8) := (List.range n).map fun i => BitVec.ofNat 8 (x / 2 ^ (8 * (n - 1 - i)))
theorem beY_length (n x : Nat) : (beY n x).length = n := by simp [beY]
theorem beY_at (n x i : Nat) (h : i < n) : (beY n x).getD i 0 = BitVec.ofNat 8 (x / 2 ^ (8 * (n - 1 - i))) := by simp [beY, List.getD, h]
theorem yv_byte (m : Nat) : yv (BitVec.ofNat 8 m) = (m : Int) % 256 := by
  unfold yv
  rw [BitVec.toNat_ofNat]
  simp
theorem beY_put (n x : Nat) : (beY n x).map yv = putI (x : Int) n := by
  simp only [beY, putI, List.map_map]
  apply List.map_congr_left
  intro i _
  rw [Function.comp, yv_byte]
  simp
/-- The stream's byte at a place. -/
def strB (T n : List (BitVec 8)) (p : Nat) : BitVec 8 := (sealB T (n ++ beY 4 (p / 16))).getD (p % 16) 0
def strL (T n : List (BitVec 8)) (o size : Nat) : List (BitVec 8) := (List.range size).map fun j => strB T n (o + j)
theorem strL_length (T n : List (BitVec 8)) (o size : Nat) : (strL T n o size).length = size := by simp [strL]
theorem strL_at (T n : List (BitVec 8)) (o size j : Nat) (h : j < size) : (strL T n o size).getD j 0 = strB T n (o + j) := by simp [strL, List.getD, h]
theorem strL_take (T n : List (BitVec 8)) (o i j : Nat) (h : j ≤ i) : (strL T n o i).take j = strL T n o j := by
  apply List.ext_getElem
  · simp [strL, h]
  · intro k h1 h2
    simp [strL]
theorem strL_drop (T n : List (BitVec 8)) (o i j : Nat) : (strL T n o (i + j)).drop i = strL T n (o + i) j := by
  apply List.ext_getElem
  · simp [strL]
  · intro k h1 h2
    simp [strL, Nat.add_assoc]
theorem strL_block (T n : List (BitVec 8)) (hT : T.length = 240) (i : Nat) : strL T n (16 * i) 16 = sealB T (n ++ beY 4 i) := by
  have hl := sealB_length T (n ++ beY 4 i) hT
  apply List.ext_getElem
  · rw [strL_length, hl]
  · intro k h1 h2
    rw [strL_length] at h1
    have e1 : (16 * i + k) / 16 = i := by omega
    have e2 : (16 * i + k) % 16 = k := by omega
    have e3 : k % 16 = k := Nat.mod_eq_of_lt h1
    simp [strL, strB, e1, List.getD, e3, h2]

/-- Bytes that were read as numbers. -/
def toY (l : List Int) : List (BitVec 8) := l.map fun z => BitVec.ofNat 8 z.toNat
theorem toY_yv (l : List Int) (h : Byt l) : (toY l).map yv = l := by
  unfold toY
  rw [List.map_map]
  conv => rhs; rw [← List.map_id l]
  apply List.map_congr_left
  intro z hz
  have := h z hz
  rw [Function.comp, yv_byte]
  simp only [id]
  omega
theorem yvs_inj {a b : List (BitVec 8)} : a.map yv = b.map yv ↔ a = b :=
  ⟨fun h => List.map_inj_right (fun a b h => (yv_inj a b).1 h) |>.1 h, fun h => by rw [h]⟩
theorem byt_yv (l : List (BitVec 8)) : Byt (l.map yv) := by
  intro z hz
  obtain ⟨b, _, rfl⟩ := List.mem_map.1 hz
  unfold yv
  have := b.isLt
  omega
/-- A slice of a row reads as that part of it. -/
theorem BS.of_arr {w : World} {g t o n cap : Nat} {L : List (BitVec 8)} (h : ArrY w g t L) (ho : o + n ≤ L.length) : BS w (.slice (some ⟨g, o, none⟩) n cap) (((L.drop o).take n).map yv) := by
  have hl : (((L.drop o).take n).map yv).length = n := by simp; omega
  refine ⟨some ⟨g, o, none⟩, cap, by rw [hl], byt_yv _, nofun, .inr ⟨g, o, rfl, fun i hi => ?_⟩⟩
  rw [hl] at hi
  have hc := h.cell (k := o + i) (by omega)
  rw [hc]
  have h1 : o + i < L.length := by omega
  simp [List.getD, hi, h1]
theorem BS.of_arr0 {w : World} {g t n cap : Nat} {L : List (BitVec 8)} (h : ArrY w g t L) (hn : L.length = n) : BS w (.slice (some ⟨g, 0, none⟩) n cap) (L.map yv) := by
  have h := BS.of_arr (o := 0) (n := n) (cap := cap) h (by omega)
  rwa [List.drop_zero, List.take_of_length_le (by omega)] at h
theorem made_zero (n : Nat) : madeCells #[.int .u8 0] n = yvs (zeroY n) := by
  rw [yvs_zero]
  apply Array.ext'
  rw [toList_madeCells_one]
  simp
theorem zlt {w : World} {g t : Nat} {l : List (BitVec 8)} (h : ArrY w g t l) : g < w.heap.size := Nat.lt_of_not_le fun e => by
  unfold ArrY at h
  rw [Array.getElem?_eq_none e] at h
  cases h
theorem zfour (w : World) (A B C D : Obj) : ((((w.alloc A).alloc B).alloc C).alloc D).heap[w.heap.size]? = some A ∧ ((((w.alloc A).alloc B).alloc C).alloc D).heap[w.heap.size + 1]? = some B ∧
    ((((w.alloc A).alloc B).alloc C).alloc D).heap[w.heap.size + 1 + 1]? = some C ∧ ((((w.alloc A).alloc B).alloc C).alloc D).heap[w.heap.size + 1 + 1 + 1]? = some D ∧ ((((w.alloc A).alloc B).alloc C).alloc D).heap.size = w.heap.size + 4 ∧ Below w.heap.size w ((((w.alloc A).alloc B).alloc C).alloc D) := by
  obtain ⟨h0, h1, h2, hz, hb⟩ := ythree w A B C
  have hst := (Below.refl (((w.alloc A).alloc B).alloc C).heap.size (((w.alloc A).alloc B).alloc C)).alloc (Nat.le_refl _) D
  have hn := heap_alloc_new (((w.alloc A).alloc B).alloc C) D
  rw [hz] at hn hst
  exact ⟨(hst.block _ (by omega)).trans h0, (hst.block _ (by omega)).trans h1, (hst.block _ (by omega)).trans h2, hn, by simp, hb.trans (hst.mono (by omega))⟩
/-- Only block g has changed. -/
structure Only (g : Nat) (w w' : World) : Prop where
  size : w'.heap.size = w.heap.size
  rest : ∀ k, k ≠ g → w'.heap[k]? = w.heap[k]?
  bel : ∀ B, B ≤ g → Below B w w'
theorem Only.refl (g : Nat) (w : World) : Only g w w := ⟨rfl, fun _ _ => rfl, fun B _ => Below.refl B w⟩
theorem Only.setCell {g : Nat} {w w' : World} (h : Only g w w') (k : Nat) (v : Value) : Only g w (w'.setCell ⟨g, k, none⟩ v) :=
  ⟨by simpa using h.size, fun j hj => (Below.heap_setCell _ _ _ _ (fun e => hj e)).trans (h.rest j hj), fun B hB => (h.bel B hB).setCell (p := ⟨g, k, none⟩) hB v⟩
theorem Only.arr {g h t : Nat} {w w' : World} {L : List (BitVec 8)} (q : Only g w w') (a : ArrY w h t L) (hne : h ≠ g) : ArrY w' h t L := (q.rest h hne).trans a
end Go.Proofs.Ytbnclmlbennhaaa
