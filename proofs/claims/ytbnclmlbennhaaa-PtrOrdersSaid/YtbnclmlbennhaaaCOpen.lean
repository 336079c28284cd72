/-
  The structs of layer 5's laws: their cells, what a block that holds them gives, how they come in.
-/
import Derived.Test.YtbnclmlbennhaaaYLaid
import Derived.Test.YtbnclmlbennhaaaCMath
import Derived.SizedLaws
namespace Go.Proofs.Ytbnclmlbennhaaa
set_option maxRecDepth 4000
open Go.ChangeShapes Go.WideShapes Go.ChangeAt Go.RowKit

theorem lcut {α : Type} (L : List α) (o z : Nat) : L.drop o = (L.drop o).take z ++ L.drop (o + z) := by rw [← List.drop_drop, List.take_append_drop]
theorem one_of {α : Type} (L : List α) (o : Nat) (h : o < L.length) : ∃ u, (L.drop o).take 1 = [u] := by
  refine ⟨L[o], ?_⟩
  rw [List.drop_eq_getElem_cons h]
  rfl
theorem cells_part {W : World} {B t : Nat} {cs : Array Value} {A P Z : List Value} {o : Nat} (h : W.heap[B]? = some (.cells cs t (0, 0))) (hc : cs.toList = A ++ (P ++ Z)) (ho : A.length = o) : W.rangeAt B o P := by
  intro j v hv
  have hj := (List.getElem?_eq_some_iff.1 hv).1
  rw [cell_of_row _ _ _ _ _ _ h, ← Array.getElem?_toList, hc, List.getElem?_append_right (by omega), List.getElem?_append_left (by omega), ← ho, Nat.add_sub_cancel_left]
  exact hv
theorem cells_one {W : World} {B o : Nat} {v : Value} (h : W.rangeAt B o [v]) : W.cell? ⟨B, o, none⟩ = some v := h 0 v rfl
section
variable {H : Type} {enc : TypeId × Value → H}
theorem sized_parts {P : Program} {ts : List TypeId} {ds : List (DataW H)} (h : (DataW.weightsEach P ts ds).all (· ≤ reachBytes) = true) {j : Nat} {t : TypeId} {parts : List (DataW H)} {fs : Array Field} (ht : ts[j]? = some t) (hd : ds[j]? = some (.agg parts)) (hu : P.underlying t = some (.struct fs)) :
    (DataW.weightsEach P (fs.toList.map (·.type)) parts).all (· ≤ reachBytes) = true :=
  List.all_eq_true.2 fun n hn => List.all_eq_true.1 h n (DataW.weights_mem_each ht hd n (by simp only [DataW.weights, hu]; exact hn))
theorem open_yslice {W : World} {base : Nat} {v : Value} {d : DataW H} {p : List MemPlace} {ts : List TypeId} {ds : List (DataW H)} {j : Nat} (hok : Value.okWide Try.prog W .any base 28 v) (h : ∃ fuel, DataW.trod enc Try.prog W 0 (fun _ => true) true fuel 28 v.cells.toList = some (d, p))
    (hsz : (DataW.weightsEach Try.prog ts ds).all (· ≤ reachBytes) = true) (ht : ts[j]? = some 28) (hd : ds[j]? = some d) :
    ∃ a len cap l, v = .slice a len cap ∧ (toY l).length = len ∧ BS W (.slice a len cap) ((toY l).map yv) ∧ len ≤ cap ∧ cap ≤ 140737488351232 := by
  have hby : 1 ≤ Try.prog.bytesOf 5 := of_decide_eq_true (by kernel_rfl)
  obtain ⟨a, len, cap, rfl⟩ := okWide_slice Try.underlying28 hok
  obtain ⟨fuel, hf⟩ := h
  rcases open_ints Try.underlying28 Try.underlying5 (by kernel_rfl) hf with ⟨hcs, _⟩ | ⟨x, l, c, zs, hcs, _, hl, hm, hz, hx, hcell, hwz⟩
  · simp [Value.cells] at hcs
    obtain ⟨rfl, rfl, rfl⟩ := hcs
    exact ⟨none, 0, 0, [], rfl, rfl, ⟨none, 0, rfl, by intro z hz; simp [toY] at hz, fun _ => rfl, .inl rfl⟩, Nat.le_refl _, by omega⟩
  · simp [Value.cells] at hcs
    obtain ⟨rfl, rfl, rfl⟩ := hcs
    have hr := sized_slice hsz ht (by rw [hd, (Prod.mk.inj hx).1]) Try.underlying28
    have hr2 := Nat.le_trans (Nat.mul_le_mul_left _ hby) hr
    simp only [lits, List.length_map, List.length_take, List.length_drop, reachBytes, Nat.mul_one] at hr2
    have hz' : zs.length = cap := by simpa using hz
    obtain ⟨m, e1, e2, _⟩ := BS.of_row (w := W) (.inr ⟨x, rfl, hl, hm, hz', hcell, hwz⟩)
    exact ⟨some x, len, cap, m, rfl, by rw [toY, List.length_map]; exact e1, by rw [toY_yv _ e2.byt]; exact e2, hl, by omega⟩
theorem open_ycell {W : World} {v : Value} {d : DataW H} {p : List MemPlace} {fuel : Nat} (hf : DataW.trod enc Try.prog W 0 (fun _ => true) true fuel 28 [v] = some (d, p))
    (hw : ∀ elems spare, d = .slice elems spare → (elems.length + spare.length) * Try.prog.bytesOf 5 ≤ reachBytes) :
    ∃ a len cap l, v = .slice a len cap ∧ l.length = len ∧ BS W (.slice a len cap) l ∧ len ≤ cap ∧ cap ≤ 140737488351232 := by
  have hby : 1 ≤ Try.prog.bytesOf 5 := of_decide_eq_true (by kernel_rfl)
  rcases open_ints Try.underlying28 Try.underlying5 (by kernel_rfl) hf with ⟨hcs, _⟩ | ⟨x, l, c, zs, hcs, _, hl, hm, hz, hx, hcell, hwz⟩
  · injection hcs with hcs _
    subst hcs
    exact ⟨none, 0, 0, [], rfl, rfl, ⟨none, 0, rfl, by intro z hz; simp at hz, fun _ => rfl, .inl rfl⟩, Nat.le_refl _, by omega⟩
  · injection hcs with hcs _
    subst hcs
    have hr := hw _ _ (Prod.mk.inj hx).1
    have hr2 := Nat.le_trans (Nat.mul_le_mul_left _ hby) hr
    simp only [lits, List.length_map, List.length_take, List.length_drop, reachBytes, Nat.mul_one] at hr2
    have hz' : zs.length = c := by simpa using hz
    obtain ⟨m, e1, e2, _⟩ := BS.of_row (w := W) (.inr ⟨x, rfl, hl, hm, hz', hcell, hwz⟩)
    exact ⟨some x, l, c, m, rfl, e1, e2, hl, by omega⟩
end
/-- The cells of asked. -/
def askedCells (k : List (BitVec 8)) (birth : Nat) (addr : Nat) (x : Int) (y : Int) : Array Value := (k.map (fun x => Value.int .u8 (yv x)) ++ ([Value.int .u64 (birth : Int)] ++ ([Value.int .u32 (addr : Int)] ++ ([Value.int .i64 x] ++ ([Value.int .i64 y]))))).toArray
theorem asked_at {W : World} {B t : Nat} {k : List (BitVec 8)} {birth : Nat} {addr : Nat} {x : Int} {y : Int} (h : W.heap[B]? = some (.cells (askedCells k birth addr x y) t (0, 0))) (hk : k.length = 32) :
    W.rangeAt B 0 (yvs k).toList ∧
    W.cell? ⟨B, 32, none⟩ = some (Value.int .u64 (birth : Int)) ∧
    W.cell? ⟨B, 33, none⟩ = some (Value.int .u32 (addr : Int)) ∧
    W.cell? ⟨B, 34, none⟩ = some (Value.int .i64 x) ∧
    W.cell? ⟨B, 35, none⟩ = some (Value.int .i64 y) := by
  exact ⟨by have q := cells_part (o := 0) h (A := []) (P := k.map (fun x => Value.int .u8 (yv x))) (Z := [Value.int .u64 (birth : Int)] ++ ([Value.int .u32 (addr : Int)] ++ ([Value.int .i64 x] ++ ([Value.int .i64 y])))) (by simp [askedCells]) (by simp); simpa [yvs] using q, cells_one (cells_part (o := 32) h (A := k.map (fun x => Value.int .u8 (yv x))) (P := [Value.int .u64 (birth : Int)]) (Z := [Value.int .u32 (addr : Int)] ++ ([Value.int .i64 x] ++ ([Value.int .i64 y]))) (by simp [askedCells]) (by simp [hk])), cells_one (cells_part (o := 33) h (A := k.map (fun x => Value.int .u8 (yv x)) ++ ([Value.int .u64 (birth : Int)])) (P := [Value.int .u32 (addr : Int)]) (Z := [Value.int .i64 x] ++ ([Value.int .i64 y])) (by simp [askedCells]) (by simp [hk])), cells_one (cells_part (o := 34) h (A := k.map (fun x => Value.int .u8 (yv x)) ++ ([Value.int .u64 (birth : Int)] ++ ([Value.int .u32 (addr : Int)]))) (P := [Value.int .i64 x]) (Z := [Value.int .i64 y]) (by simp [askedCells]) (by simp [hk])), cells_one (cells_part (o := 35) h (A := k.map (fun x => Value.int .u8 (yv x)) ++ ([Value.int .u64 (birth : Int)] ++ ([Value.int .u32 (addr : Int)] ++ ([Value.int .i64 x])))) (P := [Value.int .i64 y]) (Z := []) (by simp [askedCells]) (by simp [hk]))⟩
section
variable {H : Type} {enc : TypeId × Value → H}
end
/-- The cells of cut. -/
def cutCells (k : List (BitVec 8)) (m : List (BitVec 8)) (al : Option Addr) (lenl capl : Nat) (x : Nat) : Array Value := (k.map (fun x => Value.int .u8 (yv x)) ++ (m.map (fun x => Value.int .u8 (yv x)) ++ ([Value.slice al lenl capl] ++ ([Value.int .u16 (x : Int)])))).toArray
theorem cut_at {W : World} {B t : Nat} {k : List (BitVec 8)} {m : List (BitVec 8)} {al : Option Addr} {lenl capl : Nat} {x : Nat} (h : W.heap[B]? = some (.cells (cutCells k m al lenl capl x) t (0, 0))) (hk : k.length = 32) (hm : m.length = 12) :
    W.rangeAt B 0 (yvs k).toList ∧
    W.rangeAt B 32 (yvs m).toList ∧
    W.cell? ⟨B, 44, none⟩ = some (Value.slice al lenl capl) ∧
    W.cell? ⟨B, 45, none⟩ = some (Value.int .u16 (x : Int)) := by
  exact ⟨by have q := cells_part (o := 0) h (A := []) (P := k.map (fun x => Value.int .u8 (yv x))) (Z := m.map (fun x => Value.int .u8 (yv x)) ++ ([Value.slice al lenl capl] ++ ([Value.int .u16 (x : Int)]))) (by simp [cutCells]) (by simp); simpa [yvs] using q, by have q := cells_part (o := 32) h (A := k.map (fun x => Value.int .u8 (yv x))) (P := m.map (fun x => Value.int .u8 (yv x))) (Z := [Value.slice al lenl capl] ++ ([Value.int .u16 (x : Int)])) (by simp [cutCells]) (by simp [hk]); simpa [yvs] using q, cells_one (cells_part (o := 44) h (A := k.map (fun x => Value.int .u8 (yv x)) ++ (m.map (fun x => Value.int .u8 (yv x)))) (P := [Value.slice al lenl capl]) (Z := [Value.int .u16 (x : Int)]) (by simp [cutCells]) (by simp [hk, hm])), cells_one (cells_part (o := 45) h (A := k.map (fun x => Value.int .u8 (yv x)) ++ (m.map (fun x => Value.int .u8 (yv x)) ++ ([Value.slice al lenl capl]))) (P := [Value.int .u16 (x : Int)]) (Z := []) (by simp [cutCells]) (by simp [hk, hm]))⟩
section
variable {H : Type} {enc : TypeId × Value → H}
end
/-- The cells of place. -/
def placeCells (k : List (BitVec 8)) (m : List (BitVec 8)) (x : Nat) (y : Nat) : Array Value := (k.map (fun x => Value.int .u8 (yv x)) ++ (m.map (fun x => Value.int .u8 (yv x)) ++ ([Value.int .u16 (x : Int)] ++ ([Value.int .u16 (y : Int)])))).toArray
theorem place_at {W : World} {B t : Nat} {k : List (BitVec 8)} {m : List (BitVec 8)} {x : Nat} {y : Nat} (h : W.heap[B]? = some (.cells (placeCells k m x y) t (0, 0))) (hk : k.length = 32) (hm : m.length = 12) :
    W.rangeAt B 0 (yvs k).toList ∧
    W.rangeAt B 32 (yvs m).toList ∧
    W.cell? ⟨B, 44, none⟩ = some (Value.int .u16 (x : Int)) ∧
    W.cell? ⟨B, 45, none⟩ = some (Value.int .u16 (y : Int)) := by
  exact ⟨by have q := cells_part (o := 0) h (A := []) (P := k.map (fun x => Value.int .u8 (yv x))) (Z := m.map (fun x => Value.int .u8 (yv x)) ++ ([Value.int .u16 (x : Int)] ++ ([Value.int .u16 (y : Int)]))) (by simp [placeCells]) (by simp); simpa [yvs] using q, by have q := cells_part (o := 32) h (A := k.map (fun x => Value.int .u8 (yv x))) (P := m.map (fun x => Value.int .u8 (yv x))) (Z := [Value.int .u16 (x : Int)] ++ ([Value.int .u16 (y : Int)])) (by simp [placeCells]) (by simp [hk]); simpa [yvs] using q, cells_one (cells_part (o := 44) h (A := k.map (fun x => Value.int .u8 (yv x)) ++ (m.map (fun x => Value.int .u8 (yv x)))) (P := [Value.int .u16 (x : Int)]) (Z := [Value.int .u16 (y : Int)]) (by simp [placeCells]) (by simp [hk, hm])), cells_one (cells_part (o := 45) h (A := k.map (fun x => Value.int .u8 (yv x)) ++ (m.map (fun x => Value.int .u8 (yv x)) ++ ([Value.int .u16 (x : Int)]))) (P := [Value.int .u16 (y : Int)]) (Z := []) (by simp [placeCells]) (by simp [hk, hm]))⟩
section
variable {H : Type} {enc : TypeId × Value → H}
end
/-- The cells of two. -/
def twoCells (k : List (BitVec 8)) (m : List (BitVec 8)) (x : Nat) (y : Nat) : Array Value := (k.map (fun x => Value.int .u8 (yv x)) ++ (m.map (fun x => Value.int .u8 (yv x)) ++ ([Value.int .u8 (x : Int)] ++ ([Value.int .u8 (y : Int)])))).toArray
theorem two_at {W : World} {B t : Nat} {k : List (BitVec 8)} {m : List (BitVec 8)} {x : Nat} {y : Nat} (h : W.heap[B]? = some (.cells (twoCells k m x y) t (0, 0))) (hk : k.length = 32) (hm : m.length = 12) :
    W.rangeAt B 0 (yvs k).toList ∧
    W.rangeAt B 32 (yvs m).toList ∧
    W.cell? ⟨B, 44, none⟩ = some (Value.int .u8 (x : Int)) ∧
    W.cell? ⟨B, 45, none⟩ = some (Value.int .u8 (y : Int)) := by
  exact ⟨by have q := cells_part (o := 0) h (A := []) (P := k.map (fun x => Value.int .u8 (yv x))) (Z := m.map (fun x => Value.int .u8 (yv x)) ++ ([Value.int .u8 (x : Int)] ++ ([Value.int .u8 (y : Int)]))) (by simp [twoCells]) (by simp); simpa [yvs] using q, by have q := cells_part (o := 32) h (A := k.map (fun x => Value.int .u8 (yv x))) (P := m.map (fun x => Value.int .u8 (yv x))) (Z := [Value.int .u8 (x : Int)] ++ ([Value.int .u8 (y : Int)])) (by simp [twoCells]) (by simp [hk]); simpa [yvs] using q, cells_one (cells_part (o := 44) h (A := k.map (fun x => Value.int .u8 (yv x)) ++ (m.map (fun x => Value.int .u8 (yv x)))) (P := [Value.int .u8 (x : Int)]) (Z := [Value.int .u8 (y : Int)]) (by simp [twoCells]) (by simp [hk, hm])), cells_one (cells_part (o := 45) h (A := k.map (fun x => Value.int .u8 (yv x)) ++ (m.map (fun x => Value.int .u8 (yv x)) ++ ([Value.int .u8 (x : Int)]))) (P := [Value.int .u8 (y : Int)]) (Z := []) (by simp [twoCells]) (by simp [hk, hm]))⟩
section
variable {H : Type} {enc : TypeId × Value → H}
end
/-- The cells of born. -/
def bornCells (a : Nat) (b : Nat) (c : Nat) (d : Nat) : Array Value := ([Value.int .u64 (a : Int)] ++ ([Value.int .u64 (b : Int)] ++ ([Value.int .u32 (c : Int)] ++ ([Value.int .u32 (d : Int)])))).toArray
theorem born_at {W : World} {B t : Nat} {a : Nat} {b : Nat} {c : Nat} {d : Nat} (h : W.heap[B]? = some (.cells (bornCells a b c d) t (0, 0))) :
    W.cell? ⟨B, 0, none⟩ = some (Value.int .u64 (a : Int)) ∧
    W.cell? ⟨B, 1, none⟩ = some (Value.int .u64 (b : Int)) ∧
    W.cell? ⟨B, 2, none⟩ = some (Value.int .u32 (c : Int)) ∧
    W.cell? ⟨B, 3, none⟩ = some (Value.int .u32 (d : Int)) := by
  exact ⟨cells_one (cells_part (o := 0) h (A := []) (P := [Value.int .u64 (a : Int)]) (Z := [Value.int .u64 (b : Int)] ++ ([Value.int .u32 (c : Int)] ++ ([Value.int .u32 (d : Int)]))) (by simp [bornCells]) (by simp)), cells_one (cells_part (o := 1) h (A := [Value.int .u64 (a : Int)]) (P := [Value.int .u64 (b : Int)]) (Z := [Value.int .u32 (c : Int)] ++ ([Value.int .u32 (d : Int)])) (by simp [bornCells]) (by simp)), cells_one (cells_part (o := 2) h (A := [Value.int .u64 (a : Int)] ++ ([Value.int .u64 (b : Int)])) (P := [Value.int .u32 (c : Int)]) (Z := [Value.int .u32 (d : Int)]) (by simp [bornCells]) (by simp)), cells_one (cells_part (o := 3) h (A := [Value.int .u64 (a : Int)] ++ ([Value.int .u64 (b : Int)] ++ ([Value.int .u32 (c : Int)]))) (P := [Value.int .u32 (d : Int)]) (Z := []) (by simp [bornCells]) (by simp))⟩
section
variable {H : Type} {enc : TypeId × Value → H}
end
/-- The cells of both. -/
def bothCells (k : List (BitVec 8)) (m : List (BitVec 8)) (al : Option Addr) (lenl capl : Nat) (ar : Option Addr) (lenr capr : Nat) : Array Value := (k.map (fun x => Value.int .u8 (yv x)) ++ (m.map (fun x => Value.int .u8 (yv x)) ++ ([Value.slice al lenl capl] ++ ([Value.slice ar lenr capr])))).toArray
theorem both_at {W : World} {B t : Nat} {k : List (BitVec 8)} {m : List (BitVec 8)} {al : Option Addr} {lenl capl : Nat} {ar : Option Addr} {lenr capr : Nat} (h : W.heap[B]? = some (.cells (bothCells k m al lenl capl ar lenr capr) t (0, 0))) (hk : k.length = 32) (hm : m.length = 12) :
    W.rangeAt B 0 (yvs k).toList ∧
    W.rangeAt B 32 (yvs m).toList ∧
    W.cell? ⟨B, 44, none⟩ = some (Value.slice al lenl capl) ∧
    W.cell? ⟨B, 45, none⟩ = some (Value.slice ar lenr capr) := by
  exact ⟨by have q := cells_part (o := 0) h (A := []) (P := k.map (fun x => Value.int .u8 (yv x))) (Z := m.map (fun x => Value.int .u8 (yv x)) ++ ([Value.slice al lenl capl] ++ ([Value.slice ar lenr capr]))) (by simp [bothCells]) (by simp); simpa [yvs] using q, by have q := cells_part (o := 32) h (A := k.map (fun x => Value.int .u8 (yv x))) (P := m.map (fun x => Value.int .u8 (yv x))) (Z := [Value.slice al lenl capl] ++ ([Value.slice ar lenr capr])) (by simp [bothCells]) (by simp [hk]); simpa [yvs] using q, cells_one (cells_part (o := 44) h (A := k.map (fun x => Value.int .u8 (yv x)) ++ (m.map (fun x => Value.int .u8 (yv x)))) (P := [Value.slice al lenl capl]) (Z := [Value.slice ar lenr capr]) (by simp [bothCells]) (by simp [hk, hm])), cells_one (cells_part (o := 45) h (A := k.map (fun x => Value.int .u8 (yv x)) ++ (m.map (fun x => Value.int .u8 (yv x)) ++ ([Value.slice al lenl capl]))) (P := [Value.slice ar lenr capr]) (Z := []) (by simp [bothCells]) (by simp [hk, hm]))⟩
section
variable {H : Type} {enc : TypeId × Value → H}
end
end Go.Proofs.Ytbnclmlbennhaaa
