/-
  CMath: Plain facts of the stream: a number's bytes as BitVec 8, the stream's bytes; slices of a row that is held as BitVec 8.
  CLay: ctr's lay: a slice of a row is filled with a number's lowest bytes, the highest first.
  CMade: ctr's Made, and the stream's block of a number.
  CStr: ctr's Stream.
  CCry: ctr's Crypt.
  CAlive: The document's example of layer 5: alive returns true and leaves what was there as it was.
  COpen: The structs of layer 5's laws: their cells, what a block that holds them gives, how they come in.
  Opn: How plain data that comes in reads: one relation a type, put together piece by piece.
  CUse: What the laws of layer 5 use: parts of slices, an appended slice, Crypt of any slice that reads as bytes.
-/
import Derived.Test.YtkafabcklohlmaaAes0
import Derived.Test.YtkafabcklohlmaaLow
import Derived.Deep.OwnRows
import Derived.SizedLaws
import Derived.ChangeMaps5
namespace Go.Proofs.Ytkafabcklohlmaa
set_option maxRecDepth 4000
open Go.RowKit

/-- n bytes of a number, the highest first. -/
def beY (n x : Nat) : List (BitVec 8) := (List.range n).map fun i => BitVec.ofNat 8 (x / 2 ^ (8 * (n - 1 - i)))
theorem beY_length (n x : Nat) : (beY n x).length = n := by simp [beY]
theorem beY_at (n x i : Nat) (h : i < n) : (beY n x).getD i 0 = BitVec.ofNat 8 (x / 2 ^ (8 * (n - 1 - i))) := by simp [beY, List.getD, h]
theorem yv_byte (m : Nat) : yv (BitVec.ofNat 8 m) = (m : Int) % 256 := by
  unfold yv
  rw [BitVec.toNat_ofNat]
  simp
theorem beY_put (n x : Nat) : (beY n x).map yv = putI (x : Int) n := by
  simp only [beY, putI, List.map_map]
  apply List.map_congr_left
  intro i _
  rw [Function.comp, yv_byte]
  simp
/-- The stream's byte at a place. -/
def strB (T n : List (BitVec 8)) (p : Nat) : BitVec 8 := (sealB T (n ++ beY 4 (p / 16))).getD (p % 16) 0
def strL (T n : List (BitVec 8)) (o size : Nat) : List (BitVec 8) := (List.range size).map fun j => strB T n (o + j)
theorem strL_length (T n : List (BitVec 8)) (o size : Nat) : (strL T n o size).length = size := by simp [strL]
theorem strL_at (T n : List (BitVec 8)) (o size j : Nat) (h : j < size) : (strL T n o size).getD j 0 = strB T n (o + j) := by simp [strL, List.getD, h]
theorem strL_take (T n : List (BitVec 8)) (o i j : Nat) (h : j ≤ i) : (strL T n o i).take j = strL T n o j := by
  apply List.ext_getElem
  · simp [strL, h]
  · intro k h1 h2
    simp [strL]
theorem strL_drop (T n : List (BitVec 8)) (o i j : Nat) : (strL T n o (i + j)).drop i = strL T n (o + i) j := by
  apply List.ext_getElem
  · simp [strL]
  · intro k h1 h2
    simp [strL, Nat.add_assoc]
theorem strL_block (T n : List (BitVec 8)) (hT : T.length = 240) (i : Nat) : strL T n (16 * i) 16 = sealB T (n ++ beY 4 i) := by
  have hl := sealB_length T (n ++ beY 4 i) hT
  apply List.ext_getElem
  · rw [strL_length, hl]
  · intro k h1 h2
    rw [strL_length] at h1
    have e1 : (16 * i + k) / 16 = i := by omega
    have e2 : (16 * i + k) % 16 = k := by omega
    have e3 : k % 16 = k := Nat.mod_eq_of_lt h1
    simp [strL, strB, e1, List.getD, e3, h2]

/-- Bytes that were read as numbers. -/
def toY (l : List Int) : List (BitVec 8) := l.map fun z => BitVec.ofNat 8 z.toNat
theorem toY_yv (l : List Int) (h : Byt l) : (toY l).map yv = l := by
  unfold toY
  rw [List.map_map]
  conv => rhs; rw [← List.map_id l]
  apply List.map_congr_left
  intro z hz
  have := h z hz
  rw [Function.comp, yv_byte]
  simp only [id]
  omega
theorem yvs_inj {a b : List (BitVec 8)} : a.map yv = b.map yv ↔ a = b :=
  ⟨fun h => List.map_inj_right (fun a b h => (yv_inj a b).1 h) |>.1 h, fun h => by rw [h]⟩
theorem byt_yv (l : List (BitVec 8)) : Byt (l.map yv) := by
  intro z hz
  obtain ⟨b, _, rfl⟩ := List.mem_map.1 hz
  unfold yv
  have := b.isLt
  omega
/-- A slice of a row reads as that part of it. -/
theorem BS.of_arr {w : World} {g t o n cap : Nat} {L : List (BitVec 8)} (h : ArrY w g t L) (ho : o + n ≤ L.length) : BS w (.slice (some ⟨g, o, none⟩) n cap) (((L.drop o).take n).map yv) := by
  have hl : (((L.drop o).take n).map yv).length = n := by simp; omega
  refine ⟨some ⟨g, o, none⟩, cap, by rw [hl], byt_yv _, nofun, .inr ⟨g, o, rfl, fun i hi => ?_⟩⟩
  rw [hl] at hi
  have hc := h.cell (k := o + i) (by omega)
  rw [hc]
  have h1 : o + i < L.length := by omega
  simp [List.getD, hi, h1]
theorem BS.of_arr0 {w : World} {g t n cap : Nat} {L : List (BitVec 8)} (h : ArrY w g t L) (hn : L.length = n) : BS w (.slice (some ⟨g, 0, none⟩) n cap) (L.map yv) := by
  have h := BS.of_arr (o := 0) (n := n) (cap := cap) h (by omega)
  rwa [List.drop_zero, List.take_of_length_le (by omega)] at h
theorem made_zero (n : Nat) : madeCells #[.int .u8 0] n = yvs (zeroY n) := by
  rw [yvs_zero]
  apply Array.ext'
  rw [toList_madeCells_one]
  simp
theorem zlt {w : World} {g t : Nat} {l : List (BitVec 8)} (h : ArrY w g t l) : g < w.heap.size := Nat.lt_of_not_le fun e => by
  unfold ArrY at h
  rw [Array.getElem?_eq_none e] at h
  cases h
theorem zfour (w : World) (A B C D : Obj) : ((((w.alloc A).alloc B).alloc C).alloc D).heap[w.heap.size]? = some A ∧ ((((w.alloc A).alloc B).alloc C).alloc D).heap[w.heap.size + 1]? = some B ∧
    ((((w.alloc A).alloc B).alloc C).alloc D).heap[w.heap.size + 1 + 1]? = some C ∧ ((((w.alloc A).alloc B).alloc C).alloc D).heap[w.heap.size + 1 + 1 + 1]? = some D ∧ ((((w.alloc A).alloc B).alloc C).alloc D).heap.size = w.heap.size + 4 ∧ Below w.heap.size w ((((w.alloc A).alloc B).alloc C).alloc D) := by
  obtain ⟨h0, h1, h2, hz, hb⟩ := ythree w A B C
  have hst := (Below.refl (((w.alloc A).alloc B).alloc C).heap.size (((w.alloc A).alloc B).alloc C)).alloc (Nat.le_refl _) D
  have hn := heap_alloc_new (((w.alloc A).alloc B).alloc C) D
  rw [hz] at hn hst
  exact ⟨(hst.block _ (by omega)).trans h0, (hst.block _ (by omega)).trans h1, (hst.block _ (by omega)).trans h2, hn, by simp, hb.trans (hst.mono (by omega))⟩
/-- Only block g has changed. -/
structure Only (g : Nat) (w w' : World) : Prop where
  size : w'.heap.size = w.heap.size
  rest : ∀ k, k ≠ g → w'.heap[k]? = w.heap[k]?
  bel : ∀ B, B ≤ g → Below B w w'
theorem Only.refl (g : Nat) (w : World) : Only g w w := ⟨rfl, fun _ _ => rfl, fun B _ => Below.refl B w⟩
theorem Only.setCell {g : Nat} {w w' : World} (h : Only g w w') (k : Nat) (v : Value) : Only g w (w'.setCell ⟨g, k, none⟩ v) :=
  ⟨by simpa using h.size, fun j hj => (Below.heap_setCell _ _ _ _ (fun e => hj e)).trans (h.rest j hj), fun B hB => (h.bel B hB).setCell (p := ⟨g, k, none⟩) hB v⟩
theorem Only.arr {g h t : Nat} {w w' : World} {L : List (BitVec 8)} (q : Only g w w') (a : ArrY w h t L) (hne : h ≠ g) : ArrY w' h t L := (q.rest h hne).trans a
end Go.Proofs.Ytkafabcklohlmaa
namespace Go.Proofs.Ytkafabcklohlmaa
set_option maxRecDepth 4000
open Go.RowKit

theorem lay_full (L : List (BitVec 8)) (o n x : Nat) (ho : o + n ≤ L.length) : setF (fun j => o + (n - 1 - j)) (fun j => BitVec.ofNat 8 (x / 2 ^ (8 * j))) n L = putL L o (beY n x) := by
  have hlen : (putL L o (beY n x)).length = L.length := putL_length L o _ (by rw [beY_length]; exact ho)
  have key : ∀ (k : Nat) (i : Nat), k ≤ n → i < L.length → (setF (fun j => o + (n - 1 - j)) (fun j => BitVec.ofNat 8 (x / 2 ^ (8 * j))) k L).getD i 0 = if o + n - k ≤ i ∧ i < o + n then BitVec.ofNat 8 (x / 2 ^ (8 * (o + n - 1 - i))) else L.getD i 0 := by
    intro k
    induction k with
    | zero => intro i _ _; rw [if_neg (by omega)]; rfl
    | succ k ih =>
      intro i hk hi
      have hih := ih i (by omega) hi
      show ((setF (fun j => o + (n - 1 - j)) (fun j => BitVec.ofNat 8 (x / 2 ^ (8 * j))) k L).set (o + (n - 1 - k)) (BitVec.ofNat 8 (x / 2 ^ (8 * k)))).getD i 0 = _
      have hl := setF_length (fun j => o + (n - 1 - j)) (fun j => BitVec.ofNat 8 (x / 2 ^ (8 * j))) k L
      by_cases h : o + (n - 1 - k) = i
      · subst h
        rw [if_pos (by omega), show o + n - 1 - (o + (n - 1 - k)) = k by omega]
        simp [List.getD, hl, hi]
      · have e : ((setF (fun j => o + (n - 1 - j)) (fun j => BitVec.ofNat 8 (x / 2 ^ (8 * j))) k L).set (o + (n - 1 - k)) (BitVec.ofNat 8 (x / 2 ^ (8 * k)))).getD i 0 = (setF (fun j => o + (n - 1 - j)) (fun j => BitVec.ofNat 8 (x / 2 ^ (8 * j))) k L).getD i 0 := by
          simp [List.getD, List.getElem?_set_ne h]
        rw [e, hih]
        by_cases h2 : o + n - k ≤ i ∧ i < o + n
        · rw [if_pos h2, if_pos (by omega)]
        · rw [if_neg h2, if_neg (by omega)]
  apply List.ext_getElem
  · rw [setF_length, hlen]
  · intro i h1 h2
    have hi : i < L.length := by rwa [setF_length] at h1
    have h := key n i (by omega) hi
    simp only [List.getD, List.getElem?_eq_getElem h1, Option.getD_some] at h
    rw [h]
    by_cases c : o + n - n ≤ i ∧ i < o + n
    · rw [if_pos c]
      simp only [putL]
      rw [List.getElem_append_left (by simp [beY_length]; omega), List.getElem_append_right (by simp; omega)]
      simp only [List.length_take, Nat.min_eq_left (show o ≤ L.length by omega), beY, List.getElem_map, List.getElem_range]
      rw [show o + n - 1 - i = n - 1 - (i - o) by omega]
    · rw [if_neg c]
      simp only [putL]
      by_cases c2 : i < o
      · rw [List.getElem_append_left (by simp [beY_length]; omega), List.getElem_append_left (by simp; omega)]
        simp [hi]
      · rw [List.getElem_append_right (by simp [beY_length]; omega)]
        simp [beY_length, hi, Nat.min_eq_left (show o ≤ L.length by omega), show o + n + (i - (o + n)) = i by omega]

end Go.Proofs.Ytkafabcklohlmaa
namespace Go.Proofs.Ytkafabcklohlmaa
set_option maxRecDepth 4000
open Go.RowKit

theorem two_be (a c : Nat) : putL (putL (zeroY 12) 0 (beY 8 a)) 8 (beY 4 c) = beY 8 a ++ beY 4 c := by
  have h8 := beY_length 8 a
  have h4 := beY_length 4 c
  have e : putL (zeroY 12) 0 (beY 8 a) = beY 8 a ++ [0, 0, 0, 0] := by
    simp [putL, h8, zeroY]
  rw [e]
  simp [putL, h8, h4]
theorem block_put (n : List (BitVec 8)) (hn : n.length = 12) (x : Nat) : putL (putL (zeroY 16) 0 n) 12 (beY 4 x) = n ++ beY 4 x := by
  have h4 := beY_length 4 x
  have e : putL (zeroY 16) 0 n = n ++ [0, 0, 0, 0] := by
    simp [putL, hn, zeroY]
  rw [e]
  simp [putL, hn, h4]
end Go.Proofs.Ytkafabcklohlmaa
namespace Go.Proofs.Ytkafabcklohlmaa
set_option maxRecDepth 4000
open Go.RowKit

theorem slice_from (g d n : Nat) (h : d < n) (W : World) : (Instr.slice 64 (.slice (some ⟨g, 0, none⟩) n n) (some (.int .i64 (d : Int))) none none).run Try.prog W = .ok (.slice (some ⟨g, d, none⟩) (n - d) (n - d)) W := by
  obtain ⟨i0, hi0, hs⟩ := Option.map_eq_some_iff.1 yone
  have b := ybound_ok d n .sliceB (by omega) W
  have h2 : ¬ n = d := by omega
  simp [Instr.slice, run_underlying Try.underlying64, Instr.sliceBounds, sizeOf, typeInfo, hi0, hs, Addr.add_mid, b, h2]
theorem info_byte : (Try.prog.info? 5).map (fun i => (i.zero, i.size, i.bytes)) = some (some (.int .u8 0), 1, 1) := by kernel_rfl
theorem make_bytes (n : Nat) (h : n ≤ 100000000) (w : World) : (Instr.makeSlice 64 (.int .i64 (n : Int)) (.int .i64 (n : Int))).run Try.prog w = .ok (.slice (some ⟨w.heap.size, 0, none⟩) n n) (w.alloc (.cells (yvs (zeroY n)) 5)) := by
  rw [run_make_row' 64 5 (.int .u8 0) 1 Try.underlying64 info_byte rfl .i64 .i64 n (by omega) (by omega) w, made_zero]
theorem min_facts (a b c : Nat) (h : Nat.min a b = c) (ha : 0 < a) (hb : 0 < b) : c ≤ a ∧ c ≤ b ∧ 0 < c := by
  subst h; exact ⟨Nat.min_le_left _ _, Nat.min_le_right _ _, Nat.lt_min.2 ⟨ha, hb⟩⟩
theorem putL_at {M ys : List (BitVec 8)} {o j : Nat} (h : o + ys.length ≤ M.length) (hj : j < ys.length) : (putL M o ys).getD (o + j) 0 = ys.getD j 0 := by
  have h1 : o ≤ M.length := by omega
  simp only [putL, List.getD]
  rw [List.append_assoc, List.getElem?_append_right (by simp; omega), List.getElem?_append_left (by simp; omega)]
  simp [Nat.min_eq_left h1]
theorem putL_before {M ys : List (BitVec 8)} {o j : Nat} (h : o ≤ M.length) (hj : j < o) : (putL M o ys).getD j 0 = M.getD j 0 := by
  simp only [putL, List.getD]
  rw [List.append_assoc, List.getElem?_append_left (by simp; omega)]
  simp [hj]

end Go.Proofs.Ytkafabcklohlmaa
namespace Go.Proofs.Ytkafabcklohlmaa
set_option maxRecDepth 4000
open Go.RowKit

/-- Of a slice that reads as bytes: a byte's cell. -/
theorem BS.cellY {w : World} {a : Option Addr} {n cap : Nat} {l : List (BitVec 8)} (h : BS w (.slice a n cap) (l.map yv)) (hl : l.length = n) {i : Nat} (hi : i < n) :
    ∃ b off, a = some ⟨b, off, none⟩ ∧ b < w.heap.size ∧ w.cell? ⟨b, off + i, none⟩ = some (.int .u8 (yv (l.getD i 0))) := by
  obtain ⟨a', cap', hv, hy, hn, h⟩ := h
  injection hv with e1 e2 e3
  rcases h with h | ⟨b, off, ha, hc⟩
  · have : l = [] := List.map_eq_nil_iff.1 h
    subst this
    simp at hl; omega
  · have hc := hc i (by simpa [hl] using hi)
    refine ⟨b, off, e1.trans ha, block_lt_of_cell hc, ?_⟩
    rw [hc]
    have : i < l.length := by omega
    simp [List.getD, this]
theorem setF_id_at (f : Nat → BitVec 8) (s : List (BitVec 8)) (k i : Nat) (hi : i < s.length) : (setF id f k s)[i]? = some (if i < k then f i else s.getD i 0) := by
  induction k with
  | zero => simp [setF, List.getD, hi]
  | succ k ih =>
    have hlen := setF_length id f k s
    show ((setF id f k s).set k (f k))[i]? = _
    by_cases h : k = i
    · subst h
      have h1 : k < (setF id f k s).length := by omega
      rw [List.getElem?_set_self h1, if_pos (by omega)]
    · rw [List.getElem?_set_ne h, ih]
      by_cases h2 : i < k
      · rw [if_pos h2, if_pos (by omega)]
      · rw [if_neg h2, if_neg (by omega)]
theorem setF_xor (s l : List (BitVec 8)) (n : Nat) (hs : s.length = n) (hl : l.length = n) : setF id (fun i => s.getD i 0 ^^^ l.getD i 0) n s = sumB l s := by
  apply List.ext_getElem?
  intro i
  by_cases hi : i < n
  · rw [setF_id_at _ _ _ _ (by omega), if_pos hi]
    have i1 : i < s.length := by omega
    have i2 : i < l.length := by omega
    simp [sumB, List.getElem?_zipWith, List.getD, i1, i2, BitVec.xor_comm]
  · rw [List.getElem?_eq_none (by rw [setF_length]; omega), List.getElem?_eq_none (by rw [sumB_length l s n hl hs]; omega)]

end Go.Proofs.Ytkafabcklohlmaa
namespace Go.Proofs.Ytkafabcklohlmaa
set_option maxRecDepth 4000
open Go.RowKit

theorem zero_stream : strL (keysL (zeroY 32)) (zeroY 12) 0 16 = sealB (keysL (zeroY 32)) (zeroY 16) := by
  have h := strL_block (keysL (zeroY 32)) (zeroY 12) (keysL_length _ (by simp [zeroY])) 0
  rw [show zeroY 12 ++ beY 4 0 = zeroY 16 by decide] at h
  exact h
theorem zero_first : (sealB (keysL (zeroY 32)) (zeroY 16)).getD 0 0 = 0xdc := by decide +kernel
theorem yv_dc : yv (0xdc : BitVec 8) = 220 := by decide
end Go.Proofs.Ytkafabcklohlmaa
namespace Go.Proofs.Ytkafabcklohlmaa
set_option maxRecDepth 4000
open Go.ChangeShapes Go.WideShapes Go.ChangeAt Go.RowKit

theorem lcut {α : Type} (L : List α) (o z : Nat) : L.drop o = (L.drop o).take z ++ L.drop (o + z) := by rw [← List.drop_drop, List.take_append_drop]
theorem one_of {α : Type} (L : List α) (o : Nat) (h : o < L.length) : ∃ u, (L.drop o).take 1 = [u] := by
  refine ⟨L[o], ?_⟩
  rw [List.drop_eq_getElem_cons h]
  rfl
theorem cells_part {W : World} {B t : Nat} {cs : Array Value} {A P Z : List Value} {o : Nat} (h : W.heap[B]? = some (.cells cs t (0, 0))) (hc : cs.toList = A ++ (P ++ Z)) (ho : A.length = o) : W.rangeAt B o P := by
  intro j v hv
  have hj := (List.getElem?_eq_some_iff.1 hv).1
  rw [cell_of_row _ _ _ _ _ _ h, ← Array.getElem?_toList, hc, List.getElem?_append_right (by omega), List.getElem?_append_left (by omega), ← ho, Nat.add_sub_cancel_left]
  exact hv
theorem cells_one {W : World} {B o : Nat} {v : Value} (h : W.rangeAt B o [v]) : W.cell? ⟨B, o, none⟩ = some v := h 0 v rfl
section
variable {H : Type} {enc : TypeId × Value → H}
theorem sized_parts {P : Program} {ts : List TypeId} {ds : List (DataW H)} (h : (DataW.weightsEach P ts ds).all (· ≤ reachBytes) = true) {j : Nat} {t : TypeId} {parts : List (DataW H)} {fs : Array Field} (ht : ts[j]? = some t) (hd : ds[j]? = some (.agg parts)) (hu : P.underlying t = some (.struct fs)) :
    (DataW.weightsEach P (fs.toList.map (·.type)) parts).all (· ≤ reachBytes) = true :=
  List.all_eq_true.2 fun n hn => List.all_eq_true.1 h n (DataW.weights_mem_each ht hd n (by simp only [DataW.weights, hu]; exact hn))
theorem open_yslice {W : World} {base : Nat} {v : Value} {d : DataW H} {p : List MemPlace} {ts : List TypeId} {ds : List (DataW H)} {j : Nat} (hok : Value.okWide Try.prog W .any base 64 v) (h : ∃ fuel, DataW.trod enc Try.prog W 0 (fun _ => true) true fuel 64 v.cells.toList = some (d, p))
    (hsz : (DataW.weightsEach Try.prog ts ds).all (· ≤ reachBytes) = true) (ht : ts[j]? = some 64) (hd : ds[j]? = some d) :
    ∃ a len cap l, v = .slice a len cap ∧ (toY l).length = len ∧ BS W (.slice a len cap) ((toY l).map yv) ∧ len ≤ cap ∧ cap ≤ 140737488351232 := by
  have hby : 1 ≤ Try.prog.bytesOf 5 := of_decide_eq_true (by kernel_rfl)
  obtain ⟨a, len, cap, rfl⟩ := okWide_slice Try.underlying64 hok
  obtain ⟨fuel, hf⟩ := h
  rcases open_ints Try.underlying64 Try.underlying5 (by kernel_rfl) hf with ⟨hcs, _⟩ | ⟨x, l, c, zs, hcs, _, hl, hm, hz, hx, hcell, hwz⟩
  · simp [Value.cells] at hcs
    obtain ⟨rfl, rfl, rfl⟩ := hcs
    exact ⟨none, 0, 0, [], rfl, rfl, ⟨none, 0, rfl, by intro z hz; simp [toY] at hz, fun _ => rfl, .inl rfl⟩, Nat.le_refl _, by omega⟩
  · simp [Value.cells] at hcs
    obtain ⟨rfl, rfl, rfl⟩ := hcs
    have hr := sized_slice hsz ht (by rw [hd, (Prod.mk.inj hx).1]) Try.underlying64
    have hr2 := Nat.le_trans (Nat.mul_le_mul_left _ hby) hr
    simp only [lits, List.length_map, List.length_take, List.length_drop, reachBytes, Nat.mul_one] at hr2
    have hz' : zs.length = cap := by simpa using hz
    obtain ⟨m, e1, e2, _⟩ := BS.of_row (w := W) (.inr ⟨x, rfl, hl, hm, hz', hcell, hwz⟩)
    exact ⟨some x, len, cap, m, rfl, by rw [toY, List.length_map]; exact e1, by rw [toY_yv _ e2.byt]; exact e2, hl, by omega⟩
theorem open_ycell {W : World} {v : Value} {d : DataW H} {p : List MemPlace} {fuel : Nat} (hf : DataW.trod enc Try.prog W 0 (fun _ => true) true fuel 64 [v] = some (d, p))
    (hw : ∀ elems spare, d = .slice elems spare → (elems.length + spare.length) * Try.prog.bytesOf 5 ≤ reachBytes) :
    ∃ a len cap l, v = .slice a len cap ∧ l.length = len ∧ BS W (.slice a len cap) l ∧ len ≤ cap ∧ cap ≤ 140737488351232 := by
  have hby : 1 ≤ Try.prog.bytesOf 5 := of_decide_eq_true (by kernel_rfl)
  rcases open_ints Try.underlying64 Try.underlying5 (by kernel_rfl) hf with ⟨hcs, _⟩ | ⟨x, l, c, zs, hcs, _, hl, hm, hz, hx, hcell, hwz⟩
  · injection hcs with hcs _
    subst hcs
    exact ⟨none, 0, 0, [], rfl, rfl, ⟨none, 0, rfl, by intro z hz; simp at hz, fun _ => rfl, .inl rfl⟩, Nat.le_refl _, by omega⟩
  · injection hcs with hcs _
    subst hcs
    have hr := hw _ _ (Prod.mk.inj hx).1
    have hr2 := Nat.le_trans (Nat.mul_le_mul_left _ hby) hr
    simp only [lits, List.length_map, List.length_take, List.length_drop, reachBytes, Nat.mul_one] at hr2
    have hz' : zs.length = c := by simpa using hz
    obtain ⟨m, e1, e2, _⟩ := BS.of_row (w := W) (.inr ⟨x, rfl, hl, hm, hz', hcell, hwz⟩)
    exact ⟨some x, l, c, m, rfl, e1, e2, hl, by omega⟩
end
/-- The cells of asked. -/
def askedCells (k : List (BitVec 8)) (birth : Nat) (addr : Nat) (x : Int) (y : Int) : Array Value := (k.map (fun x => Value.int .u8 (yv x)) ++ ([Value.int .u64 (birth : Int)] ++ ([Value.int .u32 (addr : Int)] ++ ([Value.int .i64 x] ++ ([Value.int .i64 y]))))).toArray
theorem asked_at {W : World} {B t : Nat} {k : List (BitVec 8)} {birth : Nat} {addr : Nat} {x : Int} {y : Int} (h : W.heap[B]? = some (.cells (askedCells k birth addr x y) t (0, 0))) (hk : k.length = 32) :
    W.rangeAt B 0 (yvs k).toList ∧
    W.cell? ⟨B, 32, none⟩ = some (Value.int .u64 (birth : Int)) ∧
    W.cell? ⟨B, 33, none⟩ = some (Value.int .u32 (addr : Int)) ∧
    W.cell? ⟨B, 34, none⟩ = some (Value.int .i64 x) ∧
    W.cell? ⟨B, 35, none⟩ = some (Value.int .i64 y) := by
  exact ⟨by have q := cells_part (o := 0) h (A := []) (P := k.map (fun x => Value.int .u8 (yv x))) (Z := [Value.int .u64 (birth : Int)] ++ ([Value.int .u32 (addr : Int)] ++ ([Value.int .i64 x] ++ ([Value.int .i64 y])))) (by simp [askedCells]) (by simp); simpa [yvs] using q, cells_one (cells_part (o := 32) h (A := k.map (fun x => Value.int .u8 (yv x))) (P := [Value.int .u64 (birth : Int)]) (Z := [Value.int .u32 (addr : Int)] ++ ([Value.int .i64 x] ++ ([Value.int .i64 y]))) (by simp [askedCells]) (by simp [hk])), cells_one (cells_part (o := 33) h (A := k.map (fun x => Value.int .u8 (yv x)) ++ ([Value.int .u64 (birth : Int)])) (P := [Value.int .u32 (addr : Int)]) (Z := [Value.int .i64 x] ++ ([Value.int .i64 y])) (by simp [askedCells]) (by simp [hk])), cells_one (cells_part (o := 34) h (A := k.map (fun x => Value.int .u8 (yv x)) ++ ([Value.int .u64 (birth : Int)] ++ ([Value.int .u32 (addr : Int)]))) (P := [Value.int .i64 x]) (Z := [Value.int .i64 y]) (by simp [askedCells]) (by simp [hk])), cells_one (cells_part (o := 35) h (A := k.map (fun x => Value.int .u8 (yv x)) ++ ([Value.int .u64 (birth : Int)] ++ ([Value.int .u32 (addr : Int)] ++ ([Value.int .i64 x])))) (P := [Value.int .i64 y]) (Z := []) (by simp [askedCells]) (by simp [hk]))⟩
section
variable {H : Type} {enc : TypeId × Value → H}
end
/-- The cells of cut. -/
def cutCells (k : List (BitVec 8)) (m : List (BitVec 8)) (al : Option Addr) (lenl capl : Nat) (x : Nat) : Array Value := (k.map (fun x => Value.int .u8 (yv x)) ++ (m.map (fun x => Value.int .u8 (yv x)) ++ ([Value.slice al lenl capl] ++ ([Value.int .u16 (x : Int)])))).toArray
theorem cut_at {W : World} {B t : Nat} {k : List (BitVec 8)} {m : List (BitVec 8)} {al : Option Addr} {lenl capl : Nat} {x : Nat} (h : W.heap[B]? = some (.cells (cutCells k m al lenl capl x) t (0, 0))) (hk : k.length = 32) (hm : m.length = 12) :
    W.rangeAt B 0 (yvs k).toList ∧
    W.rangeAt B 32 (yvs m).toList ∧
    W.cell? ⟨B, 44, none⟩ = some (Value.slice al lenl capl) ∧
    W.cell? ⟨B, 45, none⟩ = some (Value.int .u16 (x : Int)) := by
  exact ⟨by have q := cells_part (o := 0) h (A := []) (P := k.map (fun x => Value.int .u8 (yv x))) (Z := m.map (fun x => Value.int .u8 (yv x)) ++ ([Value.slice al lenl capl] ++ ([Value.int .u16 (x : Int)]))) (by simp [cutCells]) (by simp); simpa [yvs] using q, by have q := cells_part (o := 32) h (A := k.map (fun x => Value.int .u8 (yv x))) (P := m.map (fun x => Value.int .u8 (yv x))) (Z := [Value.slice al lenl capl] ++ ([Value.int .u16 (x : Int)])) (by simp [cutCells]) (by simp [hk]); simpa [yvs] using q, cells_one (cells_part (o := 44) h (A := k.map (fun x => Value.int .u8 (yv x)) ++ (m.map (fun x => Value.int .u8 (yv x)))) (P := [Value.slice al lenl capl]) (Z := [Value.int .u16 (x : Int)]) (by simp [cutCells]) (by simp [hk, hm])), cells_one (cells_part (o := 45) h (A := k.map (fun x => Value.int .u8 (yv x)) ++ (m.map (fun x => Value.int .u8 (yv x)) ++ ([Value.slice al lenl capl]))) (P := [Value.int .u16 (x : Int)]) (Z := []) (by simp [cutCells]) (by simp [hk, hm]))⟩
section
variable {H : Type} {enc : TypeId × Value → H}
end
/-- The cells of place. -/
def placeCells (k : List (BitVec 8)) (m : List (BitVec 8)) (x : Nat) (y : Nat) : Array Value := (k.map (fun x => Value.int .u8 (yv x)) ++ (m.map (fun x => Value.int .u8 (yv x)) ++ ([Value.int .u16 (x : Int)] ++ ([Value.int .u16 (y : Int)])))).toArray
theorem place_at {W : World} {B t : Nat} {k : List (BitVec 8)} {m : List (BitVec 8)} {x : Nat} {y : Nat} (h : W.heap[B]? = some (.cells (placeCells k m x y) t (0, 0))) (hk : k.length = 32) (hm : m.length = 12) :
    W.rangeAt B 0 (yvs k).toList ∧
    W.rangeAt B 32 (yvs m).toList ∧
    W.cell? ⟨B, 44, none⟩ = some (Value.int .u16 (x : Int)) ∧
    W.cell? ⟨B, 45, none⟩ = some (Value.int .u16 (y : Int)) := by
  exact ⟨by have q := cells_part (o := 0) h (A := []) (P := k.map (fun x => Value.int .u8 (yv x))) (Z := m.map (fun x => Value.int .u8 (yv x)) ++ ([Value.int .u16 (x : Int)] ++ ([Value.int .u16 (y : Int)]))) (by simp [placeCells]) (by simp); simpa [yvs] using q, by have q := cells_part (o := 32) h (A := k.map (fun x => Value.int .u8 (yv x))) (P := m.map (fun x => Value.int .u8 (yv x))) (Z := [Value.int .u16 (x : Int)] ++ ([Value.int .u16 (y : Int)])) (by simp [placeCells]) (by simp [hk]); simpa [yvs] using q, cells_one (cells_part (o := 44) h (A := k.map (fun x => Value.int .u8 (yv x)) ++ (m.map (fun x => Value.int .u8 (yv x)))) (P := [Value.int .u16 (x : Int)]) (Z := [Value.int .u16 (y : Int)]) (by simp [placeCells]) (by simp [hk, hm])), cells_one (cells_part (o := 45) h (A := k.map (fun x => Value.int .u8 (yv x)) ++ (m.map (fun x => Value.int .u8 (yv x)) ++ ([Value.int .u16 (x : Int)]))) (P := [Value.int .u16 (y : Int)]) (Z := []) (by simp [placeCells]) (by simp [hk, hm]))⟩
section
variable {H : Type} {enc : TypeId × Value → H}
end
/-- The cells of two. -/
def twoCells (k : List (BitVec 8)) (m : List (BitVec 8)) (x : Nat) (y : Nat) : Array Value := (k.map (fun x => Value.int .u8 (yv x)) ++ (m.map (fun x => Value.int .u8 (yv x)) ++ ([Value.int .u8 (x : Int)] ++ ([Value.int .u8 (y : Int)])))).toArray
theorem two_at {W : World} {B t : Nat} {k : List (BitVec 8)} {m : List (BitVec 8)} {x : Nat} {y : Nat} (h : W.heap[B]? = some (.cells (twoCells k m x y) t (0, 0))) (hk : k.length = 32) (hm : m.length = 12) :
    W.rangeAt B 0 (yvs k).toList ∧
    W.rangeAt B 32 (yvs m).toList ∧
    W.cell? ⟨B, 44, none⟩ = some (Value.int .u8 (x : Int)) ∧
    W.cell? ⟨B, 45, none⟩ = some (Value.int .u8 (y : Int)) := by
  exact ⟨by have q := cells_part (o := 0) h (A := []) (P := k.map (fun x => Value.int .u8 (yv x))) (Z := m.map (fun x => Value.int .u8 (yv x)) ++ ([Value.int .u8 (x : Int)] ++ ([Value.int .u8 (y : Int)]))) (by simp [twoCells]) (by simp); simpa [yvs] using q, by have q := cells_part (o := 32) h (A := k.map (fun x => Value.int .u8 (yv x))) (P := m.map (fun x => Value.int .u8 (yv x))) (Z := [Value.int .u8 (x : Int)] ++ ([Value.int .u8 (y : Int)])) (by simp [twoCells]) (by simp [hk]); simpa [yvs] using q, cells_one (cells_part (o := 44) h (A := k.map (fun x => Value.int .u8 (yv x)) ++ (m.map (fun x => Value.int .u8 (yv x)))) (P := [Value.int .u8 (x : Int)]) (Z := [Value.int .u8 (y : Int)]) (by simp [twoCells]) (by simp [hk, hm])), cells_one (cells_part (o := 45) h (A := k.map (fun x => Value.int .u8 (yv x)) ++ (m.map (fun x => Value.int .u8 (yv x)) ++ ([Value.int .u8 (x : Int)]))) (P := [Value.int .u8 (y : Int)]) (Z := []) (by simp [twoCells]) (by simp [hk, hm]))⟩
section
variable {H : Type} {enc : TypeId × Value → H}
end
/-- The cells of born. -/
def bornCells (a : Nat) (b : Nat) (c : Nat) (d : Nat) : Array Value := ([Value.int .u64 (a : Int)] ++ ([Value.int .u64 (b : Int)] ++ ([Value.int .u32 (c : Int)] ++ ([Value.int .u32 (d : Int)])))).toArray
theorem born_at {W : World} {B t : Nat} {a : Nat} {b : Nat} {c : Nat} {d : Nat} (h : W.heap[B]? = some (.cells (bornCells a b c d) t (0, 0))) :
    W.cell? ⟨B, 0, none⟩ = some (Value.int .u64 (a : Int)) ∧
    W.cell? ⟨B, 1, none⟩ = some (Value.int .u64 (b : Int)) ∧
    W.cell? ⟨B, 2, none⟩ = some (Value.int .u32 (c : Int)) ∧
    W.cell? ⟨B, 3, none⟩ = some (Value.int .u32 (d : Int)) := by
  exact ⟨cells_one (cells_part (o := 0) h (A := []) (P := [Value.int .u64 (a : Int)]) (Z := [Value.int .u64 (b : Int)] ++ ([Value.int .u32 (c : Int)] ++ ([Value.int .u32 (d : Int)]))) (by simp [bornCells]) (by simp)), cells_one (cells_part (o := 1) h (A := [Value.int .u64 (a : Int)]) (P := [Value.int .u64 (b : Int)]) (Z := [Value.int .u32 (c : Int)] ++ ([Value.int .u32 (d : Int)])) (by simp [bornCells]) (by simp)), cells_one (cells_part (o := 2) h (A := [Value.int .u64 (a : Int)] ++ ([Value.int .u64 (b : Int)])) (P := [Value.int .u32 (c : Int)]) (Z := [Value.int .u32 (d : Int)]) (by simp [bornCells]) (by simp)), cells_one (cells_part (o := 3) h (A := [Value.int .u64 (a : Int)] ++ ([Value.int .u64 (b : Int)] ++ ([Value.int .u32 (c : Int)]))) (P := [Value.int .u32 (d : Int)]) (Z := []) (by simp [bornCells]) (by simp))⟩
section
variable {H : Type} {enc : TypeId × Value → H}
end
/-- The cells of both. -/
def bothCells (k : List (BitVec 8)) (m : List (BitVec 8)) (al : Option Addr) (lenl capl : Nat) (ar : Option Addr) (lenr capr : Nat) : Array Value := (k.map (fun x => Value.int .u8 (yv x)) ++ (m.map (fun x => Value.int .u8 (yv x)) ++ ([Value.slice al lenl capl] ++ ([Value.slice ar lenr capr])))).toArray
theorem both_at {W : World} {B t : Nat} {k : List (BitVec 8)} {m : List (BitVec 8)} {al : Option Addr} {lenl capl : Nat} {ar : Option Addr} {lenr capr : Nat} (h : W.heap[B]? = some (.cells (bothCells k m al lenl capl ar lenr capr) t (0, 0))) (hk : k.length = 32) (hm : m.length = 12) :
    W.rangeAt B 0 (yvs k).toList ∧
    W.rangeAt B 32 (yvs m).toList ∧
    W.cell? ⟨B, 44, none⟩ = some (Value.slice al lenl capl) ∧
    W.cell? ⟨B, 45, none⟩ = some (Value.slice ar lenr capr) := by
  exact ⟨by have q := cells_part (o := 0) h (A := []) (P := k.map (fun x => Value.int .u8 (yv x))) (Z := m.map (fun x => Value.int .u8 (yv x)) ++ ([Value.slice al lenl capl] ++ ([Value.slice ar lenr capr]))) (by simp [bothCells]) (by simp); simpa [yvs] using q, by have q := cells_part (o := 32) h (A := k.map (fun x => Value.int .u8 (yv x))) (P := m.map (fun x => Value.int .u8 (yv x))) (Z := [Value.slice al lenl capl] ++ ([Value.slice ar lenr capr])) (by simp [bothCells]) (by simp [hk]); simpa [yvs] using q, cells_one (cells_part (o := 44) h (A := k.map (fun x => Value.int .u8 (yv x)) ++ (m.map (fun x => Value.int .u8 (yv x)))) (P := [Value.slice al lenl capl]) (Z := [Value.slice ar lenr capr]) (by simp [bothCells]) (by simp [hk, hm])), cells_one (cells_part (o := 45) h (A := k.map (fun x => Value.int .u8 (yv x)) ++ (m.map (fun x => Value.int .u8 (yv x)) ++ ([Value.slice al lenl capl]))) (P := [Value.slice ar lenr capr]) (Z := []) (by simp [bothCells]) (by simp [hk, hm]))⟩
section
variable {H : Type} {enc : TypeId × Value → H}
end
end Go.Proofs.Ytkafabcklohlmaa
namespace Go.Proofs.Ytkafabcklohlmaa
set_option maxRecDepth 4000
open Go.ChangeShapes Go.WideShapes Go.ChangeAt Go.RowKit

theorem opn_weights_all {H : Type} {P : Program} {e : TypeId} : ∀ {l : List (DataW H)} {d : DataW H} {n : Nat}, d ∈ l → n ∈ d.weights P e → n ∈ DataW.weightsAll P e l
  | x :: r, d, n, hd, hn => by
    simp only [DataW.weightsAll, List.mem_append]
    rcases List.mem_cons.1 hd with h | h
    · subst h; exact .inl hn
    · exact .inr (opn_weights_all h hn)
/-- Whatever comes in at type T reads as R tells. -/
def Opn {α : Type} (T : TypeId) (R : World → α → List Value → Prop) : Prop :=
  ∀ (H : Type) (enc : TypeId × Value → H) (W : World) (fuel : Nat) (cs : List Value) (y : DataW H × List MemPlace), DataW.trod enc Try.prog W 0 (fun _ => true) true fuel T cs = some y →
    (∀ n ∈ DataW.weights Try.prog T y.1, n ≤ reachBytes) → ∃ a : α, R W a cs
def RInt (k : IntKind) (lo hi : Int) : World → Int → List Value → Prop := fun _ n cs => cs = [.int k n] ∧ lo ≤ n ∧ n ≤ hi
theorem opn_int {T : TypeId} (k : IntKind) (lo hi : Int) (hu : Try.prog.underlying T = some (.int k)) (hb : ∀ n, (Lit.int k n).wf = true → lo ≤ n ∧ n ≤ hi) : Opn T (RInt k lo hi) := by
  intro H enc W fuel cs y h _
  obtain ⟨n, h1, _, h3⟩ := DataW.trod_int hu h
  exact ⟨n, h1, (hb n h3).1, (hb n h3).2⟩
theorem wf_i64 (n : Int) (h : (Lit.int .i64 n).wf = true) : -9223372036854775808 ≤ n ∧ n ≤ 9223372036854775807 := by simp [Lit.wf, IntKind.min, IntKind.max, IntKind.signed, IntKind.bits] at h; omega
theorem wf_u64 (n : Int) (h : (Lit.int .u64 n).wf = true) : 0 ≤ n ∧ n ≤ 18446744073709551615 := by simp [Lit.wf, IntKind.min, IntKind.max, IntKind.signed, IntKind.bits] at h; omega
theorem wf_u32 (n : Int) (h : (Lit.int .u32 n).wf = true) : 0 ≤ n ∧ n ≤ 4294967295 := by simp [Lit.wf, IntKind.min, IntKind.max, IntKind.signed, IntKind.bits] at h; omega
theorem wf_u16 (n : Int) (h : (Lit.int .u16 n).wf = true) : 0 ≤ n ∧ n ≤ 65535 := by simp [Lit.wf, IntKind.min, IntKind.max, IntKind.signed, IntKind.bits] at h; omega
theorem wf_u8 (n : Int) (h : (Lit.int .u8 n).wf = true) : 0 ≤ n ∧ n ≤ 255 := by simp [Lit.wf, IntKind.min, IntKind.max, IntKind.signed, IntKind.bits] at h; omega
theorem wf_i8 (n : Int) (h : (Lit.int .i8 n).wf = true) : -128 ≤ n ∧ n ≤ 127 := by simp [Lit.wf, IntKind.min, IntKind.max, IntKind.signed, IntKind.bits] at h; omega
def RBool : World → Bool → List Value → Prop := fun _ b cs => cs = [.bool b]
theorem opn_bool {T : TypeId} (hu : Try.prog.underlying T = some .bool) : Opn T RBool := by
  intro H enc W fuel cs y h _
  obtain ⟨b, h1, _⟩ := DataW.trod_bool hu h
  exact ⟨b, h1⟩
def RStr : World → ByteArray → List Value → Prop := fun _ s cs => cs = [.string s] ∧ s.size ≤ 140737488351232
theorem opn_str {T : TypeId} (hu : Try.prog.underlying T = some .string) : Opn T RStr := by
  intro H enc W fuel cs y h hw
  obtain ⟨s, h1, h2, _⟩ := DataW.trod_string hu h
  refine ⟨s, h1, ?_⟩
  have := hw s.data.toList.length (by rw [h2]; simp [DataW.weights])
  unfold reachBytes at this
  exact this
def RRow (n : Nat) : World → List Int → List Value → Prop := fun _ l cs => cs = l.map (Value.int .u8) ∧ l.length = n ∧ Byt l
theorem opn_row {T n : Nat} (ht : Try.prog.underlying T = some (.array n 5)) (hct : Try.prog.cellsOf T = n) : Opn T (RRow n) := by
  intro H enc W fuel cs y hf _
  obtain ⟨xs, m, rfl, hx, hlen, hxn, hel⟩ := DataW.trod_array ht hf
  have c1 : Try.prog.cellsOf 5 = 1 := by kernel_rfl
  rw [hct] at hlen
  have key : ∀ i, i < n → ∃ k : Int, cs[i]? = some (.int .u8 k) ∧ 0 ≤ k ∧ k ≤ 255 := by
    intro i hi
    have h0 := hel i hi
    rw [c1, Nat.mul_one] at h0
    obtain ⟨y, hy⟩ : ∃ y, xs[i]? = some y := ⟨_, List.getElem?_eq_getElem (by omega)⟩
    rw [hy] at h0
    obtain ⟨k, e1, _, e3⟩ := DataW.trod_int Try.underlying5 h0
    have e4 := congrArg (fun l => l[0]?) e1
    refine ⟨k, by simpa using e4, ?_⟩
    exact wf_u8 k e3
  refine ⟨cs.map intOf, ?_, by rw [List.length_map]; exact hlen, ?_⟩
  · rw [List.map_map]
    apply List.ext_getElem?
    intro i
    rw [List.getElem?_map]
    by_cases hi : i < n
    · obtain ⟨k, hk, _⟩ := key i hi
      rw [hk]; rfl
    · rw [List.getElem?_eq_none (by omega)]; rfl
  · intro z hz
    obtain ⟨u, hu, rfl⟩ := List.mem_map.1 hz
    obtain ⟨i, hi, rfl⟩ := List.getElem_of_mem hu
    obtain ⟨k, hk, h0, h1⟩ := key i (by omega)
    rw [List.getElem?_eq_getElem hi] at hk
    rw [Option.some.inj hk]
    exact ⟨h0, h1⟩
def RBytes : World → List Int → List Value → Prop := fun W l cs => ∃ a c, cs = [.slice a l.length c] ∧ l.length ≤ c ∧ c ≤ 140737488351232 ∧ BS W (.slice a l.length c) l
theorem opn_bytes : Opn 64 RBytes := by
  intro H enc W fuel cs y hf hw
  obtain ⟨v, rfl⟩ : ∃ v, cs = [v] := by
    rcases DataW.trod_slice Try.underlying64 hf with ⟨h, _⟩ | ⟨_, _, _, _, _, _, _, h, _⟩
    · exact ⟨_, h⟩
    · exact ⟨_, h⟩
  obtain ⟨a, len, c, l, rfl, rfl, h2, h3, h4⟩ := open_ycell (d := y.1) (p := y.2) hf (fun es sp hd => hw _ (by rw [hd]; simp [DataW.weights, Try.underlying64]))
  exact ⟨l, a, c, rfl, h3, h4, h2⟩
/-- A slice of what reads as R tells. -/
structure SlR {α : Type} (R : World → α → List Value → Prop) (size : Nat) (W : World) (l : List α) (a : Option Addr) (n c : Nat) : Prop where
  len : l.length = n
  cap : n ≤ c
  big : c ≤ 140737488351232
  here : ∀ i (h : i < l.length), ∃ b off cs, a = some ⟨b, off, none⟩ ∧ R W l[i] cs ∧ cs.length = size ∧ W.rangeAt b (off + i * size) cs
def RSl {α : Type} (R : World → α → List Value → Prop) (size : Nat) : World → List α → List Value → Prop := fun W l cs => ∃ a n c, cs = [.slice a n c] ∧ SlR R size W l a n c
theorem opn_slice {α : Type} {T E : TypeId} {R : World → α → List Value → Prop} (size : Nat) (hu : Try.prog.underlying T = some (.slice E)) (hc : Try.prog.cellsOf E = size) (h0 : 1 ≤ size) (hby : 1 ≤ Try.prog.bytesOf E) (op : Opn E R) : Opn T (RSl R size) := by
  intro H enc W fuel cs y hf hw
  rcases DataW.trod_slice hu hf with ⟨rfl, _⟩ | ⟨x, l, c, elems, rest, n, _, rfl, hx, hb, hl, hm, hlen, hel, hsp, hns⟩
  · exact ⟨[], none, 0, 0, rfl, rfl, Nat.le_refl _, by omega, fun i h => by simp at h⟩
  · have hd := congrArg Prod.fst hx
    dsimp only at hd
    have hrest := (hsp rfl).1
    have hbig : c ≤ 140737488351232 := by
      have h1 := hw ((elems.map (·.1)).length + (rest.map (·.1)).length |> (· * Try.prog.bytesOf E)) (by rw [hd]; simp only [DataW.weights, hu]; exact List.mem_cons_self ..)
      have h2 := Nat.le_trans (Nat.mul_le_mul_left _ hby) h1
      simp only [List.length_map, reachBytes, Nat.mul_one] at h2
      omega
    have each : ∀ i : Fin l, ∃ a : α, ∃ b off cs', some x = some ⟨b, off, none⟩ ∧ R W a cs' ∧ cs'.length = size ∧ W.rangeAt b (off + i.val * size) cs' := by
      intro i
      have hie : i.val < elems.length := by omega
      have h1 := hel i.val i.isLt
      rw [hc, List.getElem?_eq_getElem hie, Option.bind_eq_some_iff] at h1
      obtain ⟨cs', h2, h3⟩ := h1
      obtain ⟨_, hln, hcell⟩ := World.cells?_some h2
      have hmem : (elems[i.val]).1 ∈ elems.map (·.1) := List.mem_map.2 ⟨_, List.getElem_mem hie, rfl⟩
      obtain ⟨a, ha⟩ := op H enc W n cs' _ h3 (fun m hm => hw m (by rw [hd]; simp only [DataW.weights, hu]; exact List.mem_cons_of_mem _ (List.mem_append_left _ (opn_weights_all hmem hm))))
      obtain ⟨b, off, spot⟩ := x
      have hspot : spot = none := by
        have h10 := hel 0 (by omega)
        rw [hc, List.getElem?_eq_getElem (by omega), Option.bind_eq_some_iff] at h10
        obtain ⟨cs0, h20, _⟩ := h10
        obtain ⟨_, hln0, hcell0⟩ := World.cells?_some h20
        have q := hcell0 0 (by omega)
        rw [List.getElem?_eq_getElem (by omega)] at q
        simpa [Addr.add] using World.cell?_spot q
      subst hspot
      refine ⟨a, b, off, cs', rfl, ha, hln, ?_⟩
      intro j u hj
      have hjl : j < size := by
        have := (List.getElem?_eq_some_iff.1 hj).1
        omega
      have e := hcell j hjl
      rw [Addr.add_mid, Addr.add_mid] at e
      rw [e, hj]
    obtain ⟨f, hf2⟩ := Classical.axiomOfChoice each
    refine ⟨List.ofFn f, some x, l, c, rfl, by simp, hl, hbig, fun i h => ?_⟩
    have hi : i < l := by simpa using h
    obtain ⟨b, off, cs', h1, h2, h3, h4⟩ := hf2 ⟨i, hi⟩
    refine ⟨b, off, cs', h1, ?_, h3, h4⟩
    rw [List.getElem_ofFn]
    exact h2
/-- At a law's parameter. -/
theorem opn_param {H : Type} {enc : TypeId × Value → H} {α : Type} {T : TypeId} {R : World → α → List Value → Prop} (op : Opn T R) {W : World} {v : Value} {d : DataW H} {p : List MemPlace} {ts : List TypeId} {ds : List (DataW H)} {j : Nat} (h : ∃ fuel, DataW.trod enc Try.prog W 0 (fun _ => true) true fuel T v.cells.toList = some (d, p))
    (hsz : (DataW.weightsEach Try.prog ts ds).all (· ≤ reachBytes) = true) (ht : ts[j]? = some T) (hd : ds[j]? = some d) : ∃ a, R W a v.cells.toList := by
  obtain ⟨fuel, hf⟩ := h
  exact op H enc W fuel _ _ hf (fun n hn => by simpa using List.all_eq_true.1 hsz n (DataW.weights_mem_each ht hd n hn))
theorem one_cell {v u : Value} (h : v.cells.toList = [u]) (hv : ∀ cs, v ≠ .agg cs) : v = u := by
  cases v <;> simp_all [Value.cells]
theorem agg_cells {v : Value} (h : 2 ≤ v.cells.toList.length) : v = .agg v.cells := by
  cases v <;> first | rfl | (simp [Value.cells] at h)
section
variable {H : Type} {enc : TypeId × Value → H} {W : World} {base : Nat} {v : Value} {d : DataW H} {p : List MemPlace} {ts : List TypeId} {ds : List (DataW H)} {j : Nat}
theorem par_slice {α : Type} {T E : TypeId} {R : World → α → List Value → Prop} {size : Nat} (hu : Try.prog.underlying T = some (.slice E)) (op : Opn T (RSl R size)) (hok : Value.okWide Try.prog W .any base T v) (h : ∃ fuel, DataW.trod enc Try.prog W 0 (fun _ => true) true fuel T v.cells.toList = some (d, p))
    (hsz : (DataW.weightsEach Try.prog ts ds).all (· ≤ reachBytes) = true) (ht : ts[j]? = some T) (hd : ds[j]? = some d) : ∃ l a n c, v = .slice a n c ∧ SlR R size W l a n c := by
  obtain ⟨a0, len0, cap0, rfl⟩ := okWide_slice hu hok
  obtain ⟨l, a, n, c, h1, h2⟩ := opn_param op h hsz ht hd
  simp [Value.cells] at h1
  obtain ⟨rfl, rfl, rfl⟩ := h1
  exact ⟨l, _, _, _, rfl, h2⟩
theorem par_bytes (hok : Value.okWide Try.prog W .any base 64 v) (h : ∃ fuel, DataW.trod enc Try.prog W 0 (fun _ => true) true fuel 64 v.cells.toList = some (d, p))
    (hsz : (DataW.weightsEach Try.prog ts ds).all (· ≤ reachBytes) = true) (ht : ts[j]? = some 64) (hd : ds[j]? = some d) : ∃ a len c l, v = .slice a len c ∧ l.length = len ∧ len ≤ c ∧ c ≤ 140737488351232 ∧ BS W (.slice a len c) l := by
  obtain ⟨a0, len0, cap0, rfl⟩ := okWide_slice Try.underlying64 hok
  obtain ⟨l, a, c, h1, h2, h3, h4⟩ := opn_param opn_bytes h hsz ht hd
  simp [Value.cells] at h1
  obtain ⟨rfl, rfl, rfl⟩ := h1
  exact ⟨_, _, _, l, rfl, rfl, h2, h3, h4⟩
theorem par_str {T : TypeId} (hu : Try.prog.underlying T = some .string) (hok : Value.okWide Try.prog W .any base T v) (h : ∃ fuel, DataW.trod enc Try.prog W 0 (fun _ => true) true fuel T v.cells.toList = some (d, p))
    (hsz : (DataW.weightsEach Try.prog ts ds).all (· ≤ reachBytes) = true) (ht : ts[j]? = some T) (hd : ds[j]? = some d) : ∃ s : ByteArray, v = .string s ∧ s.size ≤ 140737488351232 := by
  obtain ⟨s0, rfl⟩ := okWide_string hu hok
  obtain ⟨s, h1, h2⟩ := opn_param (opn_str hu) h hsz ht hd
  simp [Value.cells] at h1
  subst h1
  exact ⟨s0, rfl, h2⟩
theorem par_int {T : TypeId} (k : IntKind) (lo hi : Int) (hu : Try.prog.underlying T = some (.int k)) (hb : ∀ n, (Lit.int k n).wf = true → lo ≤ n ∧ n ≤ hi) (hok : Value.okWide Try.prog W .any base T v) (h : ∃ fuel, DataW.trod enc Try.prog W 0 (fun _ => true) true fuel T v.cells.toList = some (d, p))
    (_hsz : (DataW.weightsEach Try.prog ts ds).all (· ≤ reachBytes) = true) (_ht : ts[j]? = some T) (_hd : ds[j]? = some d) : ∃ n : Int, v = .int k n ∧ lo ≤ n ∧ n ≤ hi := by
  obtain ⟨n, rfl, _, _, hw⟩ := open_int hu hok h
  exact ⟨n, rfl, (hb n hw).1, (hb n hw).2⟩
theorem par_bool {T : TypeId} (hu : Try.prog.underlying T = some .bool) (hok : Value.okWide Try.prog W .any base T v) (h : ∃ fuel, DataW.trod enc Try.prog W 0 (fun _ => true) true fuel T v.cells.toList = some (d, p))
    (_hsz : (DataW.weightsEach Try.prog ts ds).all (· ≤ reachBytes) = true) (_ht : ts[j]? = some T) (_hd : ds[j]? = some d) : ∃ b : Bool, v = .bool b := by
  obtain ⟨b, rfl, _⟩ := open_bool hu hok h
  exact ⟨b, rfl⟩
end
end Go.Proofs.Ytkafabcklohlmaa
namespace Go.Proofs.Ytkafabcklohlmaa
set_option maxRecDepth 4000
open Go.RowKit

/-- Part of a slice. -/
theorem slice_cut (W : World) (a : Option Addr) (len cap lo hi : Nat) (l : List Int) (hB : BS W (.slice a len cap) l) (hl : l.length = len) (h1 : lo ≤ hi) (h2 : hi ≤ len) (h3 : len ≤ cap) :
    ∃ a2 : Option Addr, (∀ W', (Instr.slice 64 (.slice a len cap) (some (.int .i64 (lo : Int))) (some (.int .i64 (hi : Int))) none).run Try.prog W' = .ok (.slice a2 (hi - lo) (cap - lo)) W') ∧
      (hi = len → ∀ W', (Instr.slice 64 (.slice a len cap) (some (.int .i64 (lo : Int))) none none).run Try.prog W' = .ok (.slice a2 (hi - lo) (cap - lo)) W') ∧
      (lo = 0 → ∀ W', (Instr.slice 64 (.slice a len cap) none (some (.int .i64 (hi : Int))) none).run Try.prog W' = .ok (.slice a2 (hi - lo) (cap - lo)) W') ∧
      BS W (.slice a2 (hi - lo) (cap - lo)) ((l.drop lo).take (hi - lo)) := by
  obtain ⟨i0, hi0, hs⟩ := Option.map_eq_some_iff.1 yone
  obtain ⟨a', cap', he, hy, hn, hc⟩ := hB
  injection he with e1 e2 e3
  subst e1; subst e3
  have hlen : ((l.drop lo).take (hi - lo)).length = hi - lo := by rw [List.length_take, List.length_drop]; omega
  have hyy : Byt ((l.drop lo).take (hi - lo)) := fun z hz => hy z (List.mem_of_mem_drop (List.mem_of_mem_take hz))
  refine ⟨if cap = lo then a else a.map (·.add (lo * 1)), ?_, ?_, ?_, ?_⟩
  · intro W'
    have b1 := ybound_ok hi cap .sliceAcap (by omega) W'
    have b2 := ybound_ok lo hi .sliceB h1 W'
    simp [Instr.slice, run_underlying Try.underlying64, Instr.sliceBounds, sizeOf, typeInfo, hi0, hs, b1, b2]
  · rintro rfl W'
    have b2 := ybound_ok lo hi .sliceB h1 W'
    simp [Instr.slice, run_underlying Try.underlying64, Instr.sliceBounds, sizeOf, typeInfo, hi0, hs, b2]
  · rintro rfl W'
    have b1 := ybound_ok hi cap .sliceAcap (by omega) W'
    simp [Instr.slice, run_underlying Try.underlying64, Instr.sliceBounds, sizeOf, typeInfo, hi0, b1]
  · refine ⟨_, _, by rw [hlen], hyy, ?_, ?_⟩
    · intro hnone
      cases a with
      | none => have := hn rfl; omega
      | some x =>
        by_cases h : cap = lo
        · omega
        · simp [h] at hnone
    · by_cases h0 : (l.drop lo).take (hi - lo) = []
      · exact .inl h0
      · right
        have hpos : 0 < hi - lo := by rw [← hlen]; exact List.length_pos_iff.2 h0
        rcases hc with hc | ⟨b, off, rfl, hc⟩
        · subst hc; simp at hl; omega
        · refine ⟨b, off + lo, ?_, fun i hi' => ?_⟩
          · rw [if_neg (by omega)]
            simp [Addr.add_mid]
          · rw [hlen] at hi'
            have := hc (lo + i) (by omega)
            rw [← Nat.add_assoc] at this
            rw [this, List.getD_eq_getElem?_getD, List.getD_eq_getElem?_getD, List.getElem?_take, if_pos hi', List.getElem?_drop]
/-- A slice's beginning. -/
theorem slice_to (W : World) (a : Option Addr) (len cap i : Nat) (l : List (BitVec 8)) (hB : BS W (.slice a len cap) (l.map yv)) (hl : l.length = len) (h : i ≤ len) (h3 : len ≤ cap) :
    ∃ a2 : Option Addr, (∀ W', (Instr.slice 64 (.slice a len cap) none (some (.int .i64 (i : Int))) none).run Try.prog W' = .ok (.slice a2 i cap) W') ∧ BS W (.slice a2 i cap) ((l.take i).map yv) := by
  obtain ⟨a2, _, _, h1, h2⟩ := slice_cut W a len cap 0 i (l.map yv) hB (by simpa using hl) (Nat.zero_le _) h h3
  refine ⟨a2, h1 rfl, ?_⟩
  rw [List.drop_zero, ← List.map_take] at h2
  exact h2
/-- A slice's end. -/
theorem slice_on (W : World) (a : Option Addr) (len cap i : Nat) (l : List (BitVec 8)) (hB : BS W (.slice a len cap) (l.map yv)) (hl : l.length = len) (h : i ≤ len) (h3 : len ≤ cap) :
    ∃ a2 : Option Addr, (∀ W', (Instr.slice 64 (.slice a len cap) (some (.int .i64 (i : Int))) none none).run Try.prog W' = .ok (.slice a2 (len - i) (cap - i)) W') ∧ BS W (.slice a2 (len - i) (cap - i)) ((l.drop i).map yv) := by
  obtain ⟨a2, _, h1, _, h2⟩ := slice_cut W a len cap i len (l.map yv) hB (by simpa using hl) h (Nat.le_refl _) h3
  refine ⟨a2, h1 rfl, ?_⟩
  rw [← List.map_drop, List.take_of_length_le (by simp; omega)] at h2
  exact h2
/-- What an append into a row of the call's own gives. -/
theorem own_bytes {w : World} {base n : Nat} {v : Value} {l : List (BitVec 8)} (h : w.ownsRow base 5 1 v n ((l.map yv).map (Value.int .u8))) (hl : l.length = n) :
    ∃ a cap, v = .slice a n cap ∧ n ≤ cap ∧ cap ≤ maxLen ∧ BS w (.slice a n cap) (l.map yv) := by
  have hb := BS.of_own h (by simpa using hl) (byt_yv l)
  rcases h.2 with ⟨rfl, rfl⟩ | ⟨g, cap, cur, rfl, _, _, h1, h2, _⟩
  · exact ⟨none, 0, rfl, Nat.le_refl _, by unfold maxLen; omega, hb⟩
  · exact ⟨_, cap, rfl, h1, h2, hb⟩
theorem sumB_take (a b : List (BitVec 8)) (i : Nat) : (sumB a b).take i = sumB (a.take i) (b.take i) := by simp [sumB, List.take_zipWith]
theorem sumB_twice (a b : List (BitVec 8)) (h : a.length = b.length) : sumB (sumB a b) b = a := by
  apply List.ext_getElem
  · simp [sumB, h]
  · intro i h1 h2
    simp [sumB, BitVec.xor_assoc]
theorem sumB_zero (n : Nat) (b : List (BitVec 8)) (h : b.length = n) : sumB (zeroY n) b = b := by
  apply List.ext_getElem
  · simp [sumB, zeroY, h]
  · intro i h1 h2
    simp [sumB, zeroY]
theorem size_k32 (l : List (BitVec 8)) (h : l.length = 32) : (Try.prog.info? 33).map (·.size) = some (yvs l).size := by rw [show (Try.prog.info? 33).map (·.size) = some 32 by kernel_rfl, yvs_size, h]
theorem results_cell_two {P : Program} {fn : Func} {p q : Tmp} {ty : TypeId} (h : fn.results = #[.cell p ty, .tmp q]) (tmps : Array Value) (w : World) (g : Nat) (t : TypeId) (cs : Array Value) (fr : Nat × Nat) (d : TypeDesc)
    (hp : tmps.getD p undef = .pointer (some ⟨g, 0, none⟩)) (hg : w.heap[g]? = some (.cells cs t fr))
    (hu : P.underlying ty = some d) (hd : (match d with | .struct _ | .array _ _ => true | _ => false) = true) (hi : (P.info? ty).map (·.size) = some cs.size) (v : Value) (hv : tmps.getD q undef = v) :
    (results fn tmps).run P w = .ok (.tuple #[.agg cs, v]) w := by
  have hp' : tmps[p]?.getD undef = .pointer (some ⟨g, 0, none⟩) := by simpa using hp
  have hv' : tmps[q]?.getD undef = v := by simpa using hv
  simp [results, h, hp', hv', asAddr, run_loadVar_row w g t ty cs fr d hg hu hd hi]
theorem wpList_copy_y {P : Program} {ops : Array Oper} {rest : List Oper} {o : Oper} {a : Act} {w : World} {Q : Exit → Act → World → Prop} (hgd : o.guard = none) (d s : Operand) (dT sT : TypeId)
    (ho : o.op = .call { callee := .builtin .copy, args := #[d, s], argTypes := #[dT, sT] }) (elem : TypeId) (hu : P.underlying dT = some (.slice elem)) (hsz : (P.info? elem).map (·.size) = some 1)
    (g off dLen dCap : Nat) (ad : Addr) (sLen sCap : Nat) (hd : a.eval d = .slice (some ⟨g, off, none⟩) dLen dCap) (hs : a.eval s = .slice (some ad) sLen sCap)
    (cur : List Value) (t : TypeId) (hg : w.heap[g]? = some (.cells cur.toArray t (0, 0))) (cs : List Value) (hn : cs.length = Nat.min sLen dLen)
    (hsrc : ∀ j v, cs[j]? = some v → w.cell? (ad.add j) = some v) (hfit : off + cs.length ≤ cur.length) (h1 : ∀ v ∈ cs, v.oneCell' = true)
    (h : wpList P ops Q rest (a.put o.dst (goInt cs.length)) (w.setRow g (List.take off cur ++ (cs ++ List.drop (off + cs.length) cur)).toArray)) : wpList P ops Q (o :: rest) a w := by
  refine wpList_plain hgd fun K hK => ?_
  have hrun := run_copy_row (P := P) w dT sT o.type elem g off dLen dCap ad sLen sCap cur.toArray t cs hu hsz hg hn hsrc (by simpa using hfit) h1
  unfold Oper.wp
  simp [execOp, ho, resolve, invoke, builtin, hd, hs, hrun, Result.andThen]
  exact hK _ _ h
theorem wpList_load_guarded {P : Program} {ops : Array Oper} {rest : List Oper} {o : Oper} {a : Act} {w : World} {Q : Exit → Act → World → Prop} (hw : Region.wanted o (yielded ops a.tmps) = true) (ty : TypeId) (x : Operand) (ho : o.op = .load ty x)
    (g : Nat) (hx : a.eval x = .pointer (some ⟨g, 0, none⟩)) (t : TypeId) (cs : Array Value) (fr : Nat × Nat) (d : TypeDesc) (hg : w.heap[g]? = some (.cells cs t fr))
    (hu : P.underlying ty = some d) (hd : (match d with | .struct _ | .array _ _ => true | _ => false) = true) (hi : (P.info? ty).map (·.size) = some cs.size)
    (h : wpList P ops Q rest (a.put o.dst (.agg cs)) w) : wpList P ops Q (o :: rest) a w :=
  wpList_step fun _ hK => by rw [if_pos hw]; exact wp_load_row ty x ho g hx t cs fr d hg hu hd hi (hK _ _ h)
theorem bs_src {w : World} {a : Option Addr} {n cap : Nat} {l : List (BitVec 8)} (h : BS w (.slice a n cap) (l.map yv)) (hl : 0 < l.length) :
    ∃ ad, a = some ad ∧ ∀ j v, (yvs l).toList[j]? = some v → w.cell? (ad.add j) = some v := by
  obtain ⟨a', cap', hv, hy, hn, h⟩ := h
  injection hv with e1 e2 e3
  rcases h with h | ⟨b, off, ha, hc⟩
  · have : l = [] := List.map_eq_nil_iff.1 h
    subst this
    simp at hl
  · refine ⟨⟨b, off, none⟩, e1.trans ha, fun j v hv => ?_⟩
    have hj : j < l.length := by
      have := (List.getElem?_eq_some_iff.1 hv).1
      rwa [Array.length_toList, yvs_size] at this
    rw [Addr.add_mid, hc j (by simpa using hj)]
    simp only [yvs, List.getElem?_map] at hv
    simp [List.getD, hj] at hv ⊢
    exact hv
end Go.Proofs.Ytkafabcklohlmaa
