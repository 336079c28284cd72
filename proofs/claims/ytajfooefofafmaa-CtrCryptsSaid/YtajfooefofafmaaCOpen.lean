/-
  The structs of layer 5's laws: their cells, what a block that holds them gives, how they come in.
-/
import Derived.Test.YtajfooefofafmaaYLaid
import Derived.Test.YtajfooefofafmaaCMath
import Derived.SizedLaws
namespace Go.Proofs.Ytajfooefofafmaa
open Go.ChangeShapes Go.WideShapes Go.ChangeAt Go.RowKit

theorem lcut {α : Type} (L : List α) (o z : Nat) : L.drop o = (L.drop o).take z ++ L.drop (o + z) := by rw [← List.drop_drop, List.take_append_drop]
theorem one_of {α : Type} (L : List α) (o : Nat) (h : o < L.length) : ∃ u, (L.drop o).take 1 = [u] := by
  refine ⟨L[o], ?_⟩
  rw [List.drop_eq_getElem_cons h]
  rfl
theorem cells_part {W : World} {B t : Nat} {cs : Array Value} {A P Z : List Value} {o : Nat} (h : W.heap[B]? = some (.cells cs t (0, 0))) (hc : cs.toList = A ++ (P ++ Z)) (ho : A.length = o) : W.rangeAt B o P := by
  intro j v hv
  have hj := (List.getElem?_eq_some_iff.1 hv).1
  rw [cell_of_row _ _ _ _ _ _ h, ← Array.getElem?_toList, hc, List.getElem?_append_right (by omega), List.getElem?_append_left (by omega), ← ho, Nat.add_sub_cancel_left]
  exact hv
theorem cells_one {W : World} {B o : Nat} {v : Value} (h : W.rangeAt B o [v]) : W.cell? ⟨B, o, none⟩ = some v := h 0 v rfl
section
variable {H : Type} {enc : TypeId × Value → H}
theorem sized_parts {P : Program} {ts : List TypeId} {ds : List (DataW H)} (h : (DataW.weightsEach P ts ds).all (· ≤ reachBytes) = true) {j : Nat} {t : TypeId} {parts : List (DataW H)} {fs : Array Field} (ht : ts[j]? = some t) (hd : ds[j]? = some (.agg parts)) (hu : P.underlying t = some (.struct fs)) :
    (DataW.weightsEach P (fs.toList.map (·.type)) parts).all (· ≤ reachBytes) = true :=
  List.all_eq_true.2 fun n hn => List.all_eq_true.1 h n (DataW.weights_mem_each ht hd n (by simp only [DataW.weights, hu]; exact hn))
theorem open_yslice {W : World} {base : Nat} {v : Value} {d : DataW H} {p : List MemPlace} {ts : List TypeId} {ds : List (DataW H)} {j : Nat} (hok : Value.okWide Try.prog W .any base 32 v) (h : ∃ fuel, DataW.trod enc Try.prog W 0 (fun _ => true) true fuel 32 v.cells.toList = some (d, p))
    (hsz : (DataW.weightsEach Try.prog ts ds).all (· ≤ reachBytes) = true) (ht : ts[j]? = some 32) (hd : ds[j]? = some d) :
    ∃ a len cap l, v = .slice a len cap ∧ (toY l).length = len ∧ BS W (.slice a len cap) ((toY l).map yv) ∧ len ≤ cap ∧ cap ≤ 140737488351232 := by
  have hby : 1 ≤ Try.prog.bytesOf 5 := of_decide_eq_true (by kernel_rfl)
  obtain ⟨a, len, cap, rfl⟩ := okWide_slice Try.underlying32 hok
  obtain ⟨fuel, hf⟩ := h
  rcases open_ints Try.underlying32 Try.underlying5 (by kernel_rfl) hf with ⟨hcs, _⟩ | ⟨x, l, c, zs, hcs, _, hl, hm, hz, hx, hcell, hwz⟩
  · simp [Value.cells] at hcs
    obtain ⟨rfl, rfl, rfl⟩ := hcs
    exact ⟨none, 0, 0, [], rfl, rfl, ⟨none, 0, rfl, by intro z hz; simp [toY] at hz, fun _ => rfl, .inl rfl⟩, Nat.le_refl _, by omega⟩
  · simp [Value.cells] at hcs
    obtain ⟨rfl, rfl, rfl⟩ := hcs
    have hr := sized_slice hsz ht (by rw [hd, (Prod.mk.inj hx).1]) Try.underlying32
    have hr2 := Nat.le_trans (Nat.mul_le_mul_left _ hby) hr
    simp only [lits, List.length_map, List.length_take, List.length_drop, reachBytes, Nat.mul_one] at hr2
    have hz' : zs.length = cap := by simpa using hz
    obtain ⟨m, e1, e2, _⟩ := BS.of_row (w := W) (.inr ⟨x, rfl, hl, hm, hz', hcell, hwz⟩)
    exact ⟨some x, len, cap, m, rfl, by rw [toY, List.length_map]; exact e1, by rw [toY_yv _ e2.byt]; exact e2, hl, by omega⟩
theorem open_ycell {W : World} {v : Value} {d : DataW H} {p : List MemPlace} {fuel : Nat} (hf : DataW.trod enc Try.prog W 0 (fun _ => true) true fuel 32 [v] = some (d, p))
    (hw : ∀ elems spare, d = .slice elems spare → (elems.length + spare.length) * Try.prog.bytesOf 5 ≤ reachBytes) :
    ∃ a len cap l, v = .slice a len cap ∧ l.length = len ∧ BS W (.slice a len cap) l ∧ len ≤ cap ∧ cap ≤ 140737488351232 := by
  have hby : 1 ≤ Try.prog.bytesOf 5 := of_decide_eq_true (by kernel_rfl)
  rcases open_ints Try.underlying32 Try.underlying5 (by kernel_rfl) hf with ⟨hcs, _⟩ | ⟨x, l, c, zs, hcs, _, hl, hm, hz, hx, hcell, hwz⟩
  · injection hcs with hcs _
    subst hcs
    exact ⟨none, 0, 0, [], rfl, rfl, ⟨none, 0, rfl, by intro z hz; simp at hz, fun _ => rfl, .inl rfl⟩, Nat.le_refl _, by omega⟩
  · injection hcs with hcs _
    subst hcs
    have hr := hw _ _ (Prod.mk.inj hx).1
    have hr2 := Nat.le_trans (Nat.mul_le_mul_left _ hby) hr
    simp only [lits, List.length_map, List.length_take, List.length_drop, reachBytes, Nat.mul_one] at hr2
    have hz' : zs.length = c := by simpa using hz
    obtain ⟨m, e1, e2, _⟩ := BS.of_row (w := W) (.inr ⟨x, rfl, hl, hm, hz', hcell, hwz⟩)
    exact ⟨some x, l, c, m, rfl, e1, e2, hl, by omega⟩
end
/-- The cells of asked. -/
def askedCells (k : List (BitVec 8)) (birth : Nat) (addr : Nat) (x : Int) (y : Int) : Array Value := (k.map (fun x => Value.int .u8 (yv x)) ++ ([Value.int .u64 (birth : Int)] ++ ([Value.int .u32 (addr : Int)] ++ ([Value.int .i64 x] ++ ([Value.int .i64 y]))))).toArray
theorem asked_at {W : World} {B t : Nat} {k : List (BitVec 8)} {birth : Nat} {addr : Nat} {x : Int} {y : Int} (h : W.heap[B]? = some (.cells (askedCells k birth addr x y) t (0, 0))) (hk : k.length = 32) :
    W.rangeAt B 0 (yvs k).toList ∧
    W.cell? ⟨B, 32, none⟩ = some (Value.int .u64 (birth : Int)) ∧
    W.cell? ⟨B, 33, none⟩ = some (Value.int .u32 (addr : Int)) ∧
    W.cell? ⟨B, 34, none⟩ = some (Value.int .i64 x) ∧
    W.cell? ⟨B, 35, none⟩ = some (Value.int .i64 y) := by
  exact ⟨by have q := cells_part (o := 0) h (A := []) (P := k.map (fun x => Value.int .u8 (yv x))) (Z := [Value.int .u64 (birth : Int)] ++ ([Value.int .u32 (addr : Int)] ++ ([Value.int .i64 x] ++ ([Value.int .i64 y])))) (by simp [askedCells]) (by simp); simpa [yvs] using q, cells_one (cells_part (o := 32) h (A := k.map (fun x => Value.int .u8 (yv x))) (P := [Value.int .u64 (birth : Int)]) (Z := [Value.int .u32 (addr : Int)] ++ ([Value.int .i64 x] ++ ([Value.int .i64 y]))) (by simp [askedCells]) (by simp [hk])), cells_one (cells_part (o := 33) h (A := k.map (fun x => Value.int .u8 (yv x)) ++ ([Value.int .u64 (birth : Int)])) (P := [Value.int .u32 (addr : Int)]) (Z := [Value.int .i64 x] ++ ([Value.int .i64 y])) (by simp [askedCells]) (by simp [hk])), cells_one (cells_part (o := 34) h (A := k.map (fun x => Value.int .u8 (yv x)) ++ ([Value.int .u64 (birth : Int)] ++ ([Value.int .u32 (addr : Int)]))) (P := [Value.int .i64 x]) (Z := [Value.int .i64 y]) (by simp [askedCells]) (by simp [hk])), cells_one (cells_part (o := 35) h (A := k.map (fun x => Value.int .u8 (yv x)) ++ ([Value.int .u64 (birth : Int)] ++ ([Value.int .u32 (addr : Int)] ++ ([Value.int .i64 x])))) (P := [Value.int .i64 y]) (Z := []) (by simp [askedCells]) (by simp [hk]))⟩
section
variable {H : Type} {enc : TypeId × Value → H}
theorem open_asked {W : World} {base : Nat} {v : Value} {d : DataW H} {p : List MemPlace} {ts : List TypeId} {ds : List (DataW H)} (hok : Value.okWide Try.prog W .any base 26 v) (h : DataW.Trod enc Try.prog W 0 (fun _ => true) true 26 v d p)
    (hw : (DataW.weightsEach Try.prog (26 :: ts) (d :: ds)).all (· ≤ reachBytes) = true) :
    ∃ (k : List (BitVec 8)) (birth : Nat) (addr : Nat) (x : Int) (y : Int), v = .agg (askedCells k birth addr x y) ∧ k.length = 32 ∧ birth < 18446744073709551616 ∧ addr < 4294967296 ∧ -9223372036854775808 ≤ x ∧ x ≤ 9223372036854775807 ∧ -9223372036854775808 ≤ y ∧ y ≤ 9223372036854775807 := by
  obtain ⟨cs, rfl, hsz⟩ := okWide_struct Try.underlying26 hok
  obtain ⟨fuel, hf⟩ := h
  obtain ⟨xs, n, _, hd, hl, hlen, hfs⟩ := DataW.trod_struct Try.underlying26 hf
  obtain ⟨rfl, _⟩ := Prod.mk.inj hd
  have hlenk : xs.length = 5 := hlen
  obtain ⟨y0, y1, y2, y3, y4, rfl⟩ : ∃ y0 y1 y2 y3 y4, xs = [y0, y1, y2, y3, y4] := by
    match xs, hlenk with
    | [z0, z1, z2, z3, z4], _ => exact ⟨z0, z1, z2, z3, z4, rfl⟩
  have hszk : cs.toList.length = 36 := by rw [Array.length_toList, hsz]; kernel_rfl
  have g0 : DataW.trod enc Try.prog W 0 (fun _ => true) true n 22 (((cs.toList).drop 0).take 32) = some y0 := by
    have q := hfs 0 _ rfl
    have e : Try.prog.cellsOf 22 = 32 := by kernel_rfl
    simpa [Value.cells, e] using q
  have g1 : DataW.trod enc Try.prog W 0 (fun _ => true) true n 23 (((cs.toList).drop 32).take 1) = some y1 := by
    have q := hfs 1 _ rfl
    have e : Try.prog.cellsOf 23 = 1 := by kernel_rfl
    simpa [Value.cells, e] using q
  have g2 : DataW.trod enc Try.prog W 0 (fun _ => true) true n 24 (((cs.toList).drop 33).take 1) = some y2 := by
    have q := hfs 2 _ rfl
    have e : Try.prog.cellsOf 24 = 1 := by kernel_rfl
    simpa [Value.cells, e] using q
  have g3 : DataW.trod enc Try.prog W 0 (fun _ => true) true n 3 (((cs.toList).drop 34).take 1) = some y3 := by
    have q := hfs 3 _ rfl
    have e : Try.prog.cellsOf 3 = 1 := by kernel_rfl
    simpa [Value.cells, e] using q
  have g4 : DataW.trod enc Try.prog W 0 (fun _ => true) true n 3 (((cs.toList).drop 35).take 1) = some y4 := by
    have q := hfs 4 _ rfl
    have e : Try.prog.cellsOf 3 = 1 := by kernel_rfl
    simpa [Value.cells, e] using q
  clear hfs
  generalize hL : cs.toList = L at *
  obtain ⟨k, q0, hk⟩ := open_yrow (v := .agg ((L.drop 0).take 32).toArray) (d := y0.1) (p := y0.2) (t := 22) (n := 32) Try.underlying22 (by kernel_rfl) (by decide) ⟨n, by simpa [Value.cells] using g0⟩
  have p0 : (L.drop 0).take 32 = k.map (fun x => Value.int .u8 (yv x)) := by
    injection q0 with q0
    have := congrArg Array.toList q0
    simpa [yvs] using this
  obtain ⟨c1, q1, _, w1⟩ := DataW.trod_int Try.underlying23 g1
  simp [Lit.wf, IntKind.min, IntKind.max, IntKind.signed, IntKind.bits] at w1
  obtain ⟨birth, rfl⟩ : ∃ m : Nat, c1 = (m : Int) := ⟨c1.toNat, by omega⟩
  have p1 : (L.drop 32).take 1 = [Value.int .u64 (birth : Int)] := q1
  obtain ⟨c2, q2, _, w2⟩ := DataW.trod_int Try.underlying24 g2
  simp [Lit.wf, IntKind.min, IntKind.max, IntKind.signed, IntKind.bits] at w2
  obtain ⟨addr, rfl⟩ : ∃ m : Nat, c2 = (m : Int) := ⟨c2.toNat, by omega⟩
  have p2 : (L.drop 33).take 1 = [Value.int .u32 (addr : Int)] := q2
  obtain ⟨c3, q3, _, w3⟩ := DataW.trod_int Try.underlying3 g3
  simp [Lit.wf, IntKind.min, IntKind.max, IntKind.signed, IntKind.bits] at w3
  have p3 : (L.drop 34).take 1 = [Value.int .i64 c3] := q3
  obtain ⟨c4, q4, _, w4⟩ := DataW.trod_int Try.underlying3 g4
  simp [Lit.wf, IntKind.min, IntKind.max, IntKind.signed, IntKind.bits] at w4
  have p4 : (L.drop 35).take 1 = [Value.int .i64 c4] := q4
  refine ⟨k, birth, addr, c3, c4, ?_, hk, by omega, by omega, by omega, by omega, by omega, by omega⟩
  congr 1
  apply Array.ext'
  rw [hL, askedCells]
  rw [show L = L.drop 0 from rfl, lcut L 0 32, p0, lcut L 32 1, p1, lcut L 33 1, p2, lcut L 34 1, p3, lcut L 35 1, p4, List.drop_eq_nil_of_le (by omega), List.append_nil]
end

/-- The cells of cut. -/
def cutCells (k : List (BitVec 8)) (m : List (BitVec 8)) (al : Option Addr) (lenl capl : Nat) (x : Nat) : Array Value := (k.map (fun x => Value.int .u8 (yv x)) ++ (m.map (fun x => Value.int .u8 (yv x)) ++ ([Value.slice al lenl capl] ++ ([Value.int .u16 (x : Int)])))).toArray
theorem cut_at {W : World} {B t : Nat} {k : List (BitVec 8)} {m : List (BitVec 8)} {al : Option Addr} {lenl capl : Nat} {x : Nat} (h : W.heap[B]? = some (.cells (cutCells k m al lenl capl x) t (0, 0))) (hk : k.length = 32) (hm : m.length = 12) :
    W.rangeAt B 0 (yvs k).toList ∧
    W.rangeAt B 32 (yvs m).toList ∧
    W.cell? ⟨B, 44, none⟩ = some (Value.slice al lenl capl) ∧
    W.cell? ⟨B, 45, none⟩ = some (Value.int .u16 (x : Int)) := by
  exact ⟨by have q := cells_part (o := 0) h (A := []) (P := k.map (fun x => Value.int .u8 (yv x))) (Z := m.map (fun x => Value.int .u8 (yv x)) ++ ([Value.slice al lenl capl] ++ ([Value.int .u16 (x : Int)]))) (by simp [cutCells]) (by simp); simpa [yvs] using q, by have q := cells_part (o := 32) h (A := k.map (fun x => Value.int .u8 (yv x))) (P := m.map (fun x => Value.int .u8 (yv x))) (Z := [Value.slice al lenl capl] ++ ([Value.int .u16 (x : Int)])) (by simp [cutCells]) (by simp [hk]); simpa [yvs] using q, cells_one (cells_part (o := 44) h (A := k.map (fun x => Value.int .u8 (yv x)) ++ (m.map (fun x => Value.int .u8 (yv x)))) (P := [Value.slice al lenl capl]) (Z := [Value.int .u16 (x : Int)]) (by simp [cutCells]) (by simp [hk, hm])), cells_one (cells_part (o := 45) h (A := k.map (fun x => Value.int .u8 (yv x)) ++ (m.map (fun x => Value.int .u8 (yv x)) ++ ([Value.slice al lenl capl]))) (P := [Value.int .u16 (x : Int)]) (Z := []) (by simp [cutCells]) (by simp [hk, hm]))⟩
section
variable {H : Type} {enc : TypeId × Value → H}
theorem open_cut {W : World} {base : Nat} {v : Value} {d : DataW H} {p : List MemPlace} {ts : List TypeId} {ds : List (DataW H)} (hok : Value.okWide Try.prog W .any base 47 v) (h : DataW.Trod enc Try.prog W 0 (fun _ => true) true 47 v d p)
    (hw : (DataW.weightsEach Try.prog (47 :: ts) (d :: ds)).all (· ≤ reachBytes) = true) :
    ∃ (k : List (BitVec 8)) (m : List (BitVec 8)) (al : Option Addr) (lenl capl : Nat) (l : List (BitVec 8)) (x : Nat), v = .agg (cutCells k m al lenl capl x) ∧ k.length = 32 ∧ m.length = 12 ∧ l.length = lenl ∧ BS W (.slice al lenl capl) (l.map yv) ∧ lenl ≤ capl ∧ capl ≤ 140737488351232 ∧ x < 65536 := by
  obtain ⟨cs, rfl, hsz⟩ := okWide_struct Try.underlying47 hok
  obtain ⟨fuel, hf⟩ := h
  obtain ⟨xs, n, _, hd, hl, hlen, hfs⟩ := DataW.trod_struct Try.underlying47 hf
  obtain ⟨rfl, _⟩ := Prod.mk.inj hd
  have hlenk : xs.length = 4 := hlen
  obtain ⟨y0, y1, y2, y3, rfl⟩ : ∃ y0 y1 y2 y3, xs = [y0, y1, y2, y3] := by
    match xs, hlenk with
    | [z0, z1, z2, z3], _ => exact ⟨z0, z1, z2, z3, rfl⟩
  have hin := sized_parts hw (j := 0) rfl rfl Try.underlying47
  have hszk : cs.toList.length = 46 := by rw [Array.length_toList, hsz]; kernel_rfl
  have g0 : DataW.trod enc Try.prog W 0 (fun _ => true) true n 22 (((cs.toList).drop 0).take 32) = some y0 := by
    have q := hfs 0 _ rfl
    have e : Try.prog.cellsOf 22 = 32 := by kernel_rfl
    simpa [Value.cells, e] using q
  have g1 : DataW.trod enc Try.prog W 0 (fun _ => true) true n 29 (((cs.toList).drop 32).take 12) = some y1 := by
    have q := hfs 1 _ rfl
    have e : Try.prog.cellsOf 29 = 12 := by kernel_rfl
    simpa [Value.cells, e] using q
  have g2 : DataW.trod enc Try.prog W 0 (fun _ => true) true n 32 (((cs.toList).drop 44).take 1) = some y2 := by
    have q := hfs 2 _ rfl
    have e : Try.prog.cellsOf 32 = 1 := by kernel_rfl
    simpa [Value.cells, e] using q
  have g3 : DataW.trod enc Try.prog W 0 (fun _ => true) true n 45 (((cs.toList).drop 45).take 1) = some y3 := by
    have q := hfs 3 _ rfl
    have e : Try.prog.cellsOf 45 = 1 := by kernel_rfl
    simpa [Value.cells, e] using q
  clear hfs
  generalize hL : cs.toList = L at *
  obtain ⟨k, q0, hk⟩ := open_yrow (v := .agg ((L.drop 0).take 32).toArray) (d := y0.1) (p := y0.2) (t := 22) (n := 32) Try.underlying22 (by kernel_rfl) (by decide) ⟨n, by simpa [Value.cells] using g0⟩
  have p0 : (L.drop 0).take 32 = k.map (fun x => Value.int .u8 (yv x)) := by
    injection q0 with q0
    have := congrArg Array.toList q0
    simpa [yvs] using this
  obtain ⟨m, q1, hm⟩ := open_yrow (v := .agg ((L.drop 32).take 12).toArray) (d := y1.1) (p := y1.2) (t := 29) (n := 12) Try.underlying29 (by kernel_rfl) (by decide) ⟨n, by simpa [Value.cells] using g1⟩
  have p1 : (L.drop 32).take 12 = m.map (fun x => Value.int .u8 (yv x)) := by
    injection q1 with q1
    have := congrArg Array.toList q1
    simpa [yvs] using this
  obtain ⟨v2, u2⟩ : ∃ u, (L.drop 44).take 1 = [u] := one_of L 44 (by omega)
  rw [u2] at g2
  obtain ⟨al, lenl, capl, l2, rfl, r2, s2, t2, x2⟩ := open_ycell (d := y2.1) (p := y2.2) g2 (fun elems spare hd => sized_slice hin (j := 2) rfl (by rw [← hd]; rfl) Try.underlying32)
  have p2 : (L.drop 44).take 1 = [Value.slice al lenl capl] := u2
  have s2' : BS W (.slice al lenl capl) ((toY l2).map yv) := by rw [toY_yv _ s2.byt]; exact s2
  obtain ⟨c3, q3, _, w3⟩ := DataW.trod_int Try.underlying45 g3
  simp [Lit.wf, IntKind.min, IntKind.max, IntKind.signed, IntKind.bits] at w3
  obtain ⟨x, rfl⟩ : ∃ m : Nat, c3 = (m : Int) := ⟨c3.toNat, by omega⟩
  have p3 : (L.drop 45).take 1 = [Value.int .u16 (x : Int)] := q3
  refine ⟨k, m, al, lenl, capl, toY l2, x, ?_, hk, hm, by rw [toY, List.length_map]; exact r2, s2', t2, x2, by omega⟩
  congr 1
  apply Array.ext'
  rw [hL, cutCells]
  rw [show L = L.drop 0 from rfl, lcut L 0 32, p0, lcut L 32 12, p1, lcut L 44 1, p2, lcut L 45 1, p3, List.drop_eq_nil_of_le (by omega), List.append_nil]
end

/-- The cells of place. -/
def placeCells (k : List (BitVec 8)) (m : List (BitVec 8)) (x : Nat) (y : Nat) : Array Value := (k.map (fun x => Value.int .u8 (yv x)) ++ (m.map (fun x => Value.int .u8 (yv x)) ++ ([Value.int .u16 (x : Int)] ++ ([Value.int .u16 (y : Int)])))).toArray
theorem place_at {W : World} {B t : Nat} {k : List (BitVec 8)} {m : List (BitVec 8)} {x : Nat} {y : Nat} (h : W.heap[B]? = some (.cells (placeCells k m x y) t (0, 0))) (hk : k.length = 32) (hm : m.length = 12) :
    W.rangeAt B 0 (yvs k).toList ∧
    W.rangeAt B 32 (yvs m).toList ∧
    W.cell? ⟨B, 44, none⟩ = some (Value.int .u16 (x : Int)) ∧
    W.cell? ⟨B, 45, none⟩ = some (Value.int .u16 (y : Int)) := by
  exact ⟨by have q := cells_part (o := 0) h (A := []) (P := k.map (fun x => Value.int .u8 (yv x))) (Z := m.map (fun x => Value.int .u8 (yv x)) ++ ([Value.int .u16 (x : Int)] ++ ([Value.int .u16 (y : Int)]))) (by simp [placeCells]) (by simp); simpa [yvs] using q, by have q := cells_part (o := 32) h (A := k.map (fun x => Value.int .u8 (yv x))) (P := m.map (fun x => Value.int .u8 (yv x))) (Z := [Value.int .u16 (x : Int)] ++ ([Value.int .u16 (y : Int)])) (by simp [placeCells]) (by simp [hk]); simpa [yvs] using q, cells_one (cells_part (o := 44) h (A := k.map (fun x => Value.int .u8 (yv x)) ++ (m.map (fun x => Value.int .u8 (yv x)))) (P := [Value.int .u16 (x : Int)]) (Z := [Value.int .u16 (y : Int)]) (by simp [placeCells]) (by simp [hk, hm])), cells_one (cells_part (o := 45) h (A := k.map (fun x => Value.int .u8 (yv x)) ++ (m.map (fun x => Value.int .u8 (yv x)) ++ ([Value.int .u16 (x : Int)]))) (P := [Value.int .u16 (y : Int)]) (Z := []) (by simp [placeCells]) (by simp [hk, hm]))⟩
section
variable {H : Type} {enc : TypeId × Value → H}
theorem open_place {W : World} {base : Nat} {v : Value} {d : DataW H} {p : List MemPlace} {ts : List TypeId} {ds : List (DataW H)} (hok : Value.okWide Try.prog W .any base 50 v) (h : DataW.Trod enc Try.prog W 0 (fun _ => true) true 50 v d p)
    (hw : (DataW.weightsEach Try.prog (50 :: ts) (d :: ds)).all (· ≤ reachBytes) = true) :
    ∃ (k : List (BitVec 8)) (m : List (BitVec 8)) (x : Nat) (y : Nat), v = .agg (placeCells k m x y) ∧ k.length = 32 ∧ m.length = 12 ∧ x < 65536 ∧ y < 65536 := by
  obtain ⟨cs, rfl, hsz⟩ := okWide_struct Try.underlying50 hok
  obtain ⟨fuel, hf⟩ := h
  obtain ⟨xs, n, _, hd, hl, hlen, hfs⟩ := DataW.trod_struct Try.underlying50 hf
  obtain ⟨rfl, _⟩ := Prod.mk.inj hd
  have hlenk : xs.length = 4 := hlen
  obtain ⟨y0, y1, y2, y3, rfl⟩ : ∃ y0 y1 y2 y3, xs = [y0, y1, y2, y3] := by
    match xs, hlenk with
    | [z0, z1, z2, z3], _ => exact ⟨z0, z1, z2, z3, rfl⟩
  have hszk : cs.toList.length = 46 := by rw [Array.length_toList, hsz]; kernel_rfl
  have g0 : DataW.trod enc Try.prog W 0 (fun _ => true) true n 22 (((cs.toList).drop 0).take 32) = some y0 := by
    have q := hfs 0 _ rfl
    have e : Try.prog.cellsOf 22 = 32 := by kernel_rfl
    simpa [Value.cells, e] using q
  have g1 : DataW.trod enc Try.prog W 0 (fun _ => true) true n 29 (((cs.toList).drop 32).take 12) = some y1 := by
    have q := hfs 1 _ rfl
    have e : Try.prog.cellsOf 29 = 12 := by kernel_rfl
    simpa [Value.cells, e] using q
  have g2 : DataW.trod enc Try.prog W 0 (fun _ => true) true n 45 (((cs.toList).drop 44).take 1) = some y2 := by
    have q := hfs 2 _ rfl
    have e : Try.prog.cellsOf 45 = 1 := by kernel_rfl
    simpa [Value.cells, e] using q
  have g3 : DataW.trod enc Try.prog W 0 (fun _ => true) true n 45 (((cs.toList).drop 45).take 1) = some y3 := by
    have q := hfs 3 _ rfl
    have e : Try.prog.cellsOf 45 = 1 := by kernel_rfl
    simpa [Value.cells, e] using q
  clear hfs
  generalize hL : cs.toList = L at *
  obtain ⟨k, q0, hk⟩ := open_yrow (v := .agg ((L.drop 0).take 32).toArray) (d := y0.1) (p := y0.2) (t := 22) (n := 32) Try.underlying22 (by kernel_rfl) (by decide) ⟨n, by simpa [Value.cells] using g0⟩
  have p0 : (L.drop 0).take 32 = k.map (fun x => Value.int .u8 (yv x)) := by
    injection q0 with q0
    have := congrArg Array.toList q0
    simpa [yvs] using this
  obtain ⟨m, q1, hm⟩ := open_yrow (v := .agg ((L.drop 32).take 12).toArray) (d := y1.1) (p := y1.2) (t := 29) (n := 12) Try.underlying29 (by kernel_rfl) (by decide) ⟨n, by simpa [Value.cells] using g1⟩
  have p1 : (L.drop 32).take 12 = m.map (fun x => Value.int .u8 (yv x)) := by
    injection q1 with q1
    have := congrArg Array.toList q1
    simpa [yvs] using this
  obtain ⟨c2, q2, _, w2⟩ := DataW.trod_int Try.underlying45 g2
  simp [Lit.wf, IntKind.min, IntKind.max, IntKind.signed, IntKind.bits] at w2
  obtain ⟨x, rfl⟩ : ∃ m : Nat, c2 = (m : Int) := ⟨c2.toNat, by omega⟩
  have p2 : (L.drop 44).take 1 = [Value.int .u16 (x : Int)] := q2
  obtain ⟨c3, q3, _, w3⟩ := DataW.trod_int Try.underlying45 g3
  simp [Lit.wf, IntKind.min, IntKind.max, IntKind.signed, IntKind.bits] at w3
  obtain ⟨y, rfl⟩ : ∃ m : Nat, c3 = (m : Int) := ⟨c3.toNat, by omega⟩
  have p3 : (L.drop 45).take 1 = [Value.int .u16 (y : Int)] := q3
  refine ⟨k, m, x, y, ?_, hk, hm, by omega, by omega⟩
  congr 1
  apply Array.ext'
  rw [hL, placeCells]
  rw [show L = L.drop 0 from rfl, lcut L 0 32, p0, lcut L 32 12, p1, lcut L 44 1, p2, lcut L 45 1, p3, List.drop_eq_nil_of_le (by omega), List.append_nil]
end

/-- The cells of two. -/
def twoCells (k : List (BitVec 8)) (m : List (BitVec 8)) (x : Nat) (y : Nat) : Array Value := (k.map (fun x => Value.int .u8 (yv x)) ++ (m.map (fun x => Value.int .u8 (yv x)) ++ ([Value.int .u8 (x : Int)] ++ ([Value.int .u8 (y : Int)])))).toArray
theorem two_at {W : World} {B t : Nat} {k : List (BitVec 8)} {m : List (BitVec 8)} {x : Nat} {y : Nat} (h : W.heap[B]? = some (.cells (twoCells k m x y) t (0, 0))) (hk : k.length = 32) (hm : m.length = 12) :
    W.rangeAt B 0 (yvs k).toList ∧
    W.rangeAt B 32 (yvs m).toList ∧
    W.cell? ⟨B, 44, none⟩ = some (Value.int .u8 (x : Int)) ∧
    W.cell? ⟨B, 45, none⟩ = some (Value.int .u8 (y : Int)) := by
  exact ⟨by have q := cells_part (o := 0) h (A := []) (P := k.map (fun x => Value.int .u8 (yv x))) (Z := m.map (fun x => Value.int .u8 (yv x)) ++ ([Value.int .u8 (x : Int)] ++ ([Value.int .u8 (y : Int)]))) (by simp [twoCells]) (by simp); simpa [yvs] using q, by have q := cells_part (o := 32) h (A := k.map (fun x => Value.int .u8 (yv x))) (P := m.map (fun x => Value.int .u8 (yv x))) (Z := [Value.int .u8 (x : Int)] ++ ([Value.int .u8 (y : Int)])) (by simp [twoCells]) (by simp [hk]); simpa [yvs] using q, cells_one (cells_part (o := 44) h (A := k.map (fun x => Value.int .u8 (yv x)) ++ (m.map (fun x => Value.int .u8 (yv x)))) (P := [Value.int .u8 (x : Int)]) (Z := [Value.int .u8 (y : Int)]) (by simp [twoCells]) (by simp [hk, hm])), cells_one (cells_part (o := 45) h (A := k.map (fun x => Value.int .u8 (yv x)) ++ (m.map (fun x => Value.int .u8 (yv x)) ++ ([Value.int .u8 (x : Int)]))) (P := [Value.int .u8 (y : Int)]) (Z := []) (by simp [twoCells]) (by simp [hk, hm]))⟩
section
variable {H : Type} {enc : TypeId × Value → H}
theorem open_two {W : World} {base : Nat} {v : Value} {d : DataW H} {p : List MemPlace} {ts : List TypeId} {ds : List (DataW H)} (hok : Value.okWide Try.prog W .any base 53 v) (h : DataW.Trod enc Try.prog W 0 (fun _ => true) true 53 v d p)
    (hw : (DataW.weightsEach Try.prog (53 :: ts) (d :: ds)).all (· ≤ reachBytes) = true) :
    ∃ (k : List (BitVec 8)) (m : List (BitVec 8)) (x : Nat) (y : Nat), v = .agg (twoCells k m x y) ∧ k.length = 32 ∧ m.length = 12 ∧ x < 256 ∧ y < 256 := by
  obtain ⟨cs, rfl, hsz⟩ := okWide_struct Try.underlying53 hok
  obtain ⟨fuel, hf⟩ := h
  obtain ⟨xs, n, _, hd, hl, hlen, hfs⟩ := DataW.trod_struct Try.underlying53 hf
  obtain ⟨rfl, _⟩ := Prod.mk.inj hd
  have hlenk : xs.length = 4 := hlen
  obtain ⟨y0, y1, y2, y3, rfl⟩ : ∃ y0 y1 y2 y3, xs = [y0, y1, y2, y3] := by
    match xs, hlenk with
    | [z0, z1, z2, z3], _ => exact ⟨z0, z1, z2, z3, rfl⟩
  have hszk : cs.toList.length = 46 := by rw [Array.length_toList, hsz]; kernel_rfl
  have g0 : DataW.trod enc Try.prog W 0 (fun _ => true) true n 22 (((cs.toList).drop 0).take 32) = some y0 := by
    have q := hfs 0 _ rfl
    have e : Try.prog.cellsOf 22 = 32 := by kernel_rfl
    simpa [Value.cells, e] using q
  have g1 : DataW.trod enc Try.prog W 0 (fun _ => true) true n 29 (((cs.toList).drop 32).take 12) = some y1 := by
    have q := hfs 1 _ rfl
    have e : Try.prog.cellsOf 29 = 12 := by kernel_rfl
    simpa [Value.cells, e] using q
  have g2 : DataW.trod enc Try.prog W 0 (fun _ => true) true n 5 (((cs.toList).drop 44).take 1) = some y2 := by
    have q := hfs 2 _ rfl
    have e : Try.prog.cellsOf 5 = 1 := by kernel_rfl
    simpa [Value.cells, e] using q
  have g3 : DataW.trod enc Try.prog W 0 (fun _ => true) true n 5 (((cs.toList).drop 45).take 1) = some y3 := by
    have q := hfs 3 _ rfl
    have e : Try.prog.cellsOf 5 = 1 := by kernel_rfl
    simpa [Value.cells, e] using q
  clear hfs
  generalize hL : cs.toList = L at *
  obtain ⟨k, q0, hk⟩ := open_yrow (v := .agg ((L.drop 0).take 32).toArray) (d := y0.1) (p := y0.2) (t := 22) (n := 32) Try.underlying22 (by kernel_rfl) (by decide) ⟨n, by simpa [Value.cells] using g0⟩
  have p0 : (L.drop 0).take 32 = k.map (fun x => Value.int .u8 (yv x)) := by
    injection q0 with q0
    have := congrArg Array.toList q0
    simpa [yvs] using this
  obtain ⟨m, q1, hm⟩ := open_yrow (v := .agg ((L.drop 32).take 12).toArray) (d := y1.1) (p := y1.2) (t := 29) (n := 12) Try.underlying29 (by kernel_rfl) (by decide) ⟨n, by simpa [Value.cells] using g1⟩
  have p1 : (L.drop 32).take 12 = m.map (fun x => Value.int .u8 (yv x)) := by
    injection q1 with q1
    have := congrArg Array.toList q1
    simpa [yvs] using this
  obtain ⟨c2, q2, _, w2⟩ := DataW.trod_int Try.underlying5 g2
  simp [Lit.wf, IntKind.min, IntKind.max, IntKind.signed, IntKind.bits] at w2
  obtain ⟨x, rfl⟩ : ∃ m : Nat, c2 = (m : Int) := ⟨c2.toNat, by omega⟩
  have p2 : (L.drop 44).take 1 = [Value.int .u8 (x : Int)] := q2
  obtain ⟨c3, q3, _, w3⟩ := DataW.trod_int Try.underlying5 g3
  simp [Lit.wf, IntKind.min, IntKind.max, IntKind.signed, IntKind.bits] at w3
  obtain ⟨y, rfl⟩ : ∃ m : Nat, c3 = (m : Int) := ⟨c3.toNat, by omega⟩
  have p3 : (L.drop 45).take 1 = [Value.int .u8 (y : Int)] := q3
  refine ⟨k, m, x, y, ?_, hk, hm, by omega, by omega⟩
  congr 1
  apply Array.ext'
  rw [hL, twoCells]
  rw [show L = L.drop 0 from rfl, lcut L 0 32, p0, lcut L 32 12, p1, lcut L 44 1, p2, lcut L 45 1, p3, List.drop_eq_nil_of_le (by omega), List.append_nil]
end

/-- The cells of born. -/
def bornCells (a : Nat) (b : Nat) (c : Nat) (d : Nat) : Array Value := ([Value.int .u64 (a : Int)] ++ ([Value.int .u64 (b : Int)] ++ ([Value.int .u32 (c : Int)] ++ ([Value.int .u32 (d : Int)])))).toArray
theorem born_at {W : World} {B t : Nat} {a : Nat} {b : Nat} {c : Nat} {d : Nat} (h : W.heap[B]? = some (.cells (bornCells a b c d) t (0, 0))) :
    W.cell? ⟨B, 0, none⟩ = some (Value.int .u64 (a : Int)) ∧
    W.cell? ⟨B, 1, none⟩ = some (Value.int .u64 (b : Int)) ∧
    W.cell? ⟨B, 2, none⟩ = some (Value.int .u32 (c : Int)) ∧
    W.cell? ⟨B, 3, none⟩ = some (Value.int .u32 (d : Int)) := by
  exact ⟨cells_one (cells_part (o := 0) h (A := []) (P := [Value.int .u64 (a : Int)]) (Z := [Value.int .u64 (b : Int)] ++ ([Value.int .u32 (c : Int)] ++ ([Value.int .u32 (d : Int)]))) (by simp [bornCells]) (by simp)), cells_one (cells_part (o := 1) h (A := [Value.int .u64 (a : Int)]) (P := [Value.int .u64 (b : Int)]) (Z := [Value.int .u32 (c : Int)] ++ ([Value.int .u32 (d : Int)])) (by simp [bornCells]) (by simp)), cells_one (cells_part (o := 2) h (A := [Value.int .u64 (a : Int)] ++ ([Value.int .u64 (b : Int)])) (P := [Value.int .u32 (c : Int)]) (Z := [Value.int .u32 (d : Int)]) (by simp [bornCells]) (by simp)), cells_one (cells_part (o := 3) h (A := [Value.int .u64 (a : Int)] ++ ([Value.int .u64 (b : Int)] ++ ([Value.int .u32 (c : Int)]))) (P := [Value.int .u32 (d : Int)]) (Z := []) (by simp [bornCells]) (by simp))⟩
section
variable {H : Type} {enc : TypeId × Value → H}
theorem open_born {W : World} {base : Nat} {v : Value} {d : DataW H} {p : List MemPlace} {ts : List TypeId} {ds : List (DataW H)} (hok : Value.okWide Try.prog W .any base 62 v) (h : DataW.Trod enc Try.prog W 0 (fun _ => true) true 62 v d p)
    (hw : (DataW.weightsEach Try.prog (62 :: ts) (d :: ds)).all (· ≤ reachBytes) = true) :
    ∃ (a : Nat) (b : Nat) (c : Nat) (d : Nat), v = .agg (bornCells a b c d) ∧ a < 18446744073709551616 ∧ b < 18446744073709551616 ∧ c < 4294967296 ∧ d < 4294967296 := by
  obtain ⟨cs, rfl, hsz⟩ := okWide_struct Try.underlying62 hok
  obtain ⟨fuel, hf⟩ := h
  obtain ⟨xs, n, _, hd, hl, hlen, hfs⟩ := DataW.trod_struct Try.underlying62 hf
  obtain ⟨rfl, _⟩ := Prod.mk.inj hd
  have hlenk : xs.length = 4 := hlen
  obtain ⟨y0, y1, y2, y3, rfl⟩ : ∃ y0 y1 y2 y3, xs = [y0, y1, y2, y3] := by
    match xs, hlenk with
    | [z0, z1, z2, z3], _ => exact ⟨z0, z1, z2, z3, rfl⟩
  have hszk : cs.toList.length = 4 := by rw [Array.length_toList, hsz]; kernel_rfl
  have g0 : DataW.trod enc Try.prog W 0 (fun _ => true) true n 23 (((cs.toList).drop 0).take 1) = some y0 := by
    have q := hfs 0 _ rfl
    have e : Try.prog.cellsOf 23 = 1 := by kernel_rfl
    simpa [Value.cells, e] using q
  have g1 : DataW.trod enc Try.prog W 0 (fun _ => true) true n 23 (((cs.toList).drop 1).take 1) = some y1 := by
    have q := hfs 1 _ rfl
    have e : Try.prog.cellsOf 23 = 1 := by kernel_rfl
    simpa [Value.cells, e] using q
  have g2 : DataW.trod enc Try.prog W 0 (fun _ => true) true n 24 (((cs.toList).drop 2).take 1) = some y2 := by
    have q := hfs 2 _ rfl
    have e : Try.prog.cellsOf 24 = 1 := by kernel_rfl
    simpa [Value.cells, e] using q
  have g3 : DataW.trod enc Try.prog W 0 (fun _ => true) true n 24 (((cs.toList).drop 3).take 1) = some y3 := by
    have q := hfs 3 _ rfl
    have e : Try.prog.cellsOf 24 = 1 := by kernel_rfl
    simpa [Value.cells, e] using q
  clear hfs
  generalize hL : cs.toList = L at *
  obtain ⟨c0, q0, _, w0⟩ := DataW.trod_int Try.underlying23 g0
  simp [Lit.wf, IntKind.min, IntKind.max, IntKind.signed, IntKind.bits] at w0
  obtain ⟨a, rfl⟩ : ∃ m : Nat, c0 = (m : Int) := ⟨c0.toNat, by omega⟩
  have p0 : (L.drop 0).take 1 = [Value.int .u64 (a : Int)] := q0
  obtain ⟨c1, q1, _, w1⟩ := DataW.trod_int Try.underlying23 g1
  simp [Lit.wf, IntKind.min, IntKind.max, IntKind.signed, IntKind.bits] at w1
  obtain ⟨b, rfl⟩ : ∃ m : Nat, c1 = (m : Int) := ⟨c1.toNat, by omega⟩
  have p1 : (L.drop 1).take 1 = [Value.int .u64 (b : Int)] := q1
  obtain ⟨c2, q2, _, w2⟩ := DataW.trod_int Try.underlying24 g2
  simp [Lit.wf, IntKind.min, IntKind.max, IntKind.signed, IntKind.bits] at w2
  obtain ⟨c, rfl⟩ : ∃ m : Nat, c2 = (m : Int) := ⟨c2.toNat, by omega⟩
  have p2 : (L.drop 2).take 1 = [Value.int .u32 (c : Int)] := q2
  obtain ⟨c3, q3, _, w3⟩ := DataW.trod_int Try.underlying24 g3
  simp [Lit.wf, IntKind.min, IntKind.max, IntKind.signed, IntKind.bits] at w3
  obtain ⟨d, rfl⟩ : ∃ m : Nat, c3 = (m : Int) := ⟨c3.toNat, by omega⟩
  have p3 : (L.drop 3).take 1 = [Value.int .u32 (d : Int)] := q3
  refine ⟨a, b, c, d, ?_, by omega, by omega, by omega, by omega⟩
  congr 1
  apply Array.ext'
  rw [hL, bornCells]
  rw [show L = L.drop 0 from rfl, lcut L 0 1, p0, lcut L 1 1, p1, lcut L 2 1, p2, lcut L 3 1, p3, List.drop_eq_nil_of_le (by omega), List.append_nil]
end

/-- The cells of both. -/
def bothCells (k : List (BitVec 8)) (m : List (BitVec 8)) (al : Option Addr) (lenl capl : Nat) (ar : Option Addr) (lenr capr : Nat) : Array Value := (k.map (fun x => Value.int .u8 (yv x)) ++ (m.map (fun x => Value.int .u8 (yv x)) ++ ([Value.slice al lenl capl] ++ ([Value.slice ar lenr capr])))).toArray
theorem both_at {W : World} {B t : Nat} {k : List (BitVec 8)} {m : List (BitVec 8)} {al : Option Addr} {lenl capl : Nat} {ar : Option Addr} {lenr capr : Nat} (h : W.heap[B]? = some (.cells (bothCells k m al lenl capl ar lenr capr) t (0, 0))) (hk : k.length = 32) (hm : m.length = 12) :
    W.rangeAt B 0 (yvs k).toList ∧
    W.rangeAt B 32 (yvs m).toList ∧
    W.cell? ⟨B, 44, none⟩ = some (Value.slice al lenl capl) ∧
    W.cell? ⟨B, 45, none⟩ = some (Value.slice ar lenr capr) := by
  exact ⟨by have q := cells_part (o := 0) h (A := []) (P := k.map (fun x => Value.int .u8 (yv x))) (Z := m.map (fun x => Value.int .u8 (yv x)) ++ ([Value.slice al lenl capl] ++ ([Value.slice ar lenr capr]))) (by simp [bothCells]) (by simp); simpa [yvs] using q, by have q := cells_part (o := 32) h (A := k.map (fun x => Value.int .u8 (yv x))) (P := m.map (fun x => Value.int .u8 (yv x))) (Z := [Value.slice al lenl capl] ++ ([Value.slice ar lenr capr])) (by simp [bothCells]) (by simp [hk]); simpa [yvs] using q, cells_one (cells_part (o := 44) h (A := k.map (fun x => Value.int .u8 (yv x)) ++ (m.map (fun x => Value.int .u8 (yv x)))) (P := [Value.slice al lenl capl]) (Z := [Value.slice ar lenr capr]) (by simp [bothCells]) (by simp [hk, hm])), cells_one (cells_part (o := 45) h (A := k.map (fun x => Value.int .u8 (yv x)) ++ (m.map (fun x => Value.int .u8 (yv x)) ++ ([Value.slice al lenl capl]))) (P := [Value.slice ar lenr capr]) (Z := []) (by simp [bothCells]) (by simp [hk, hm]))⟩
section
variable {H : Type} {enc : TypeId × Value → H}
theorem open_both {W : World} {base : Nat} {v : Value} {d : DataW H} {p : List MemPlace} {ts : List TypeId} {ds : List (DataW H)} (hok : Value.okWide Try.prog W .any base 67 v) (h : DataW.Trod enc Try.prog W 0 (fun _ => true) true 67 v d p)
    (hw : (DataW.weightsEach Try.prog (67 :: ts) (d :: ds)).all (· ≤ reachBytes) = true) :
    ∃ (k : List (BitVec 8)) (m : List (BitVec 8)) (al : Option Addr) (lenl capl : Nat) (l : List (BitVec 8)) (ar : Option Addr) (lenr capr : Nat) (r : List (BitVec 8)), v = .agg (bothCells k m al lenl capl ar lenr capr) ∧ k.length = 32 ∧ m.length = 12 ∧ l.length = lenl ∧ BS W (.slice al lenl capl) (l.map yv) ∧ lenl ≤ capl ∧ capl ≤ 140737488351232 ∧ r.length = lenr ∧ BS W (.slice ar lenr capr) (r.map yv) ∧ lenr ≤ capr ∧ capr ≤ 140737488351232 := by
  obtain ⟨cs, rfl, hsz⟩ := okWide_struct Try.underlying67 hok
  obtain ⟨fuel, hf⟩ := h
  obtain ⟨xs, n, _, hd, hl, hlen, hfs⟩ := DataW.trod_struct Try.underlying67 hf
  obtain ⟨rfl, _⟩ := Prod.mk.inj hd
  have hlenk : xs.length = 4 := hlen
  obtain ⟨y0, y1, y2, y3, rfl⟩ : ∃ y0 y1 y2 y3, xs = [y0, y1, y2, y3] := by
    match xs, hlenk with
    | [z0, z1, z2, z3], _ => exact ⟨z0, z1, z2, z3, rfl⟩
  have hin := sized_parts hw (j := 0) rfl rfl Try.underlying67
  have hszk : cs.toList.length = 46 := by rw [Array.length_toList, hsz]; kernel_rfl
  have g0 : DataW.trod enc Try.prog W 0 (fun _ => true) true n 22 (((cs.toList).drop 0).take 32) = some y0 := by
    have q := hfs 0 _ rfl
    have e : Try.prog.cellsOf 22 = 32 := by kernel_rfl
    simpa [Value.cells, e] using q
  have g1 : DataW.trod enc Try.prog W 0 (fun _ => true) true n 29 (((cs.toList).drop 32).take 12) = some y1 := by
    have q := hfs 1 _ rfl
    have e : Try.prog.cellsOf 29 = 12 := by kernel_rfl
    simpa [Value.cells, e] using q
  have g2 : DataW.trod enc Try.prog W 0 (fun _ => true) true n 32 (((cs.toList).drop 44).take 1) = some y2 := by
    have q := hfs 2 _ rfl
    have e : Try.prog.cellsOf 32 = 1 := by kernel_rfl
    simpa [Value.cells, e] using q
  have g3 : DataW.trod enc Try.prog W 0 (fun _ => true) true n 32 (((cs.toList).drop 45).take 1) = some y3 := by
    have q := hfs 3 _ rfl
    have e : Try.prog.cellsOf 32 = 1 := by kernel_rfl
    simpa [Value.cells, e] using q
  clear hfs
  generalize hL : cs.toList = L at *
  obtain ⟨k, q0, hk⟩ := open_yrow (v := .agg ((L.drop 0).take 32).toArray) (d := y0.1) (p := y0.2) (t := 22) (n := 32) Try.underlying22 (by kernel_rfl) (by decide) ⟨n, by simpa [Value.cells] using g0⟩
  have p0 : (L.drop 0).take 32 = k.map (fun x => Value.int .u8 (yv x)) := by
    injection q0 with q0
    have := congrArg Array.toList q0
    simpa [yvs] using this
  obtain ⟨m, q1, hm⟩ := open_yrow (v := .agg ((L.drop 32).take 12).toArray) (d := y1.1) (p := y1.2) (t := 29) (n := 12) Try.underlying29 (by kernel_rfl) (by decide) ⟨n, by simpa [Value.cells] using g1⟩
  have p1 : (L.drop 32).take 12 = m.map (fun x => Value.int .u8 (yv x)) := by
    injection q1 with q1
    have := congrArg Array.toList q1
    simpa [yvs] using this
  obtain ⟨v2, u2⟩ : ∃ u, (L.drop 44).take 1 = [u] := one_of L 44 (by omega)
  rw [u2] at g2
  obtain ⟨al, lenl, capl, l2, rfl, r2, s2, t2, x2⟩ := open_ycell (d := y2.1) (p := y2.2) g2 (fun elems spare hd => sized_slice hin (j := 2) rfl (by rw [← hd]; rfl) Try.underlying32)
  have p2 : (L.drop 44).take 1 = [Value.slice al lenl capl] := u2
  have s2' : BS W (.slice al lenl capl) ((toY l2).map yv) := by rw [toY_yv _ s2.byt]; exact s2
  obtain ⟨v3, u3⟩ : ∃ u, (L.drop 45).take 1 = [u] := one_of L 45 (by omega)
  rw [u3] at g3
  obtain ⟨ar, lenr, capr, l3, rfl, r3, s3, t3, x3⟩ := open_ycell (d := y3.1) (p := y3.2) g3 (fun elems spare hd => sized_slice hin (j := 3) rfl (by rw [← hd]; rfl) Try.underlying32)
  have p3 : (L.drop 45).take 1 = [Value.slice ar lenr capr] := u3
  have s3' : BS W (.slice ar lenr capr) ((toY l3).map yv) := by rw [toY_yv _ s3.byt]; exact s3
  refine ⟨k, m, al, lenl, capl, toY l2, ar, lenr, capr, toY l3, ?_, hk, hm, by rw [toY, List.length_map]; exact r2, s2', t2, x2, by rw [toY, List.length_map]; exact r3, s3', t3, x3⟩
  congr 1
  apply Array.ext'
  rw [hL, bothCells]
  rw [show L = L.drop 0 from rfl, lcut L 0 32, p0, lcut L 32 12, p1, lcut L 44 1, p2, lcut L 45 1, p3, List.drop_eq_nil_of_le (by omega), List.append_nil]
end
end Go.Proofs.Ytajfooefofafmaa
