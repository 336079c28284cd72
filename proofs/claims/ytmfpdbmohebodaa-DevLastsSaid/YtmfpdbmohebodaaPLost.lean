/-
  The struct of DevLasts.
-/
import Derived.Test.YtmfpdbmohebodaaCOpen
namespace Go.Proofs.Ytmfpdbmohebodaa
open Go.ChangeShapes Go.WideShapes Go.ChangeAt Go.RowKit

/-- The cells of lost. -/
def lostCells (al : Option Addr) (lenl capl : Nat) (ar : Option Addr) (lenr capr : Nat) (keep : Nat) (torn : Int) : Array Value := ([Value.slice al lenl capl] ++ ([Value.slice ar lenr capr] ++ ([Value.int .u64 (keep : Int)] ++ ([Value.int .i8 torn])))).toArray
theorem lost_at {W : World} {B t : Nat} {al : Option Addr} {lenl capl : Nat} {ar : Option Addr} {lenr capr : Nat} {keep : Nat} {torn : Int} (h : W.heap[B]? = some (.cells (lostCells al lenl capl ar lenr capr keep torn) t (0, 0))) :
    W.cell? ⟨B, 0, none⟩ = some (Value.slice al lenl capl) ∧
    W.cell? ⟨B, 1, none⟩ = some (Value.slice ar lenr capr) ∧
    W.cell? ⟨B, 2, none⟩ = some (Value.int .u64 (keep : Int)) ∧
    W.cell? ⟨B, 3, none⟩ = some (Value.int .i8 torn) := by
  exact ⟨cells_one (cells_part (o := 0) h (A := []) (P := [Value.slice al lenl capl]) (Z := [Value.slice ar lenr capr] ++ ([Value.int .u64 (keep : Int)] ++ ([Value.int .i8 torn]))) (by simp [lostCells]) (by simp)), cells_one (cells_part (o := 1) h (A := [Value.slice al lenl capl]) (P := [Value.slice ar lenr capr]) (Z := [Value.int .u64 (keep : Int)] ++ ([Value.int .i8 torn])) (by simp [lostCells]) (by simp)), cells_one (cells_part (o := 2) h (A := [Value.slice al lenl capl] ++ ([Value.slice ar lenr capr])) (P := [Value.int .u64 (keep : Int)]) (Z := [Value.int .i8 torn]) (by simp [lostCells]) (by simp)), cells_one (cells_part (o := 3) h (A := [Value.slice al lenl capl] ++ ([Value.slice ar lenr capr] ++ ([Value.int .u64 (keep : Int)]))) (P := [Value.int .i8 torn]) (Z := []) (by simp [lostCells]) (by simp))⟩
section
variable {H : Type} {enc : TypeId × Value → H}
theorem open_lost {W : World} {base : Nat} {v : Value} {d : DataW H} {p : List MemPlace} {ts : List TypeId} {ds : List (DataW H)} (hok : Value.okWide Try.prog W .any base 53 v) (h : DataW.Trod enc Try.prog W 0 (fun _ => true) true 53 v d p)
    (hw : (DataW.weightsEach Try.prog (53 :: ts) (d :: ds)).all (· ≤ reachBytes) = true) :
    ∃ (al : Option Addr) (lenl capl : Nat) (l : List (BitVec 8)) (ar : Option Addr) (lenr capr : Nat) (r : List (BitVec 8)) (keep : Nat) (torn : Int), v = .agg (lostCells al lenl capl ar lenr capr keep torn) ∧ l.length = lenl ∧ BS W (.slice al lenl capl) (l.map yv) ∧ lenl ≤ capl ∧ capl ≤ 140737488351232 ∧ r.length = lenr ∧ BS W (.slice ar lenr capr) (r.map yv) ∧ lenr ≤ capr ∧ capr ≤ 140737488351232 ∧ keep < 18446744073709551616 ∧ -128 ≤ torn ∧ torn ≤ 127 := by
  obtain ⟨cs, rfl, hsz⟩ := okWide_struct Try.underlying53 hok
  obtain ⟨fuel, hf⟩ := h
  obtain ⟨xs, n, _, hd, hl, hlen, hfs⟩ := DataW.trod_struct Try.underlying53 hf
  obtain ⟨rfl, _⟩ := Prod.mk.inj hd
  have hlenk : xs.length = 4 := hlen
  obtain ⟨y0, y1, y2, y3, rfl⟩ : ∃ y0 y1 y2 y3, xs = [y0, y1, y2, y3] := by
    match xs, hlenk with
    | [z0, z1, z2, z3], _ => exact ⟨z0, z1, z2, z3, rfl⟩
  have hin := sized_parts hw (j := 0) rfl rfl Try.underlying53
  have hszk : cs.toList.length = 4 := by rw [Array.length_toList, hsz]; kernel_rfl
  have g0 : DataW.trod enc Try.prog W 0 (fun _ => true) true n 36 (((cs.toList).drop 0).take 1) = some y0 := by
    have q := hfs 0 _ rfl
    have e : Try.prog.cellsOf 36 = 1 := by kernel_rfl
    simpa [Value.cells, e] using q
  have g1 : DataW.trod enc Try.prog W 0 (fun _ => true) true n 36 (((cs.toList).drop 1).take 1) = some y1 := by
    have q := hfs 1 _ rfl
    have e : Try.prog.cellsOf 36 = 1 := by kernel_rfl
    simpa [Value.cells, e] using q
  have g2 : DataW.trod enc Try.prog W 0 (fun _ => true) true n 33 (((cs.toList).drop 2).take 1) = some y2 := by
    have q := hfs 2 _ rfl
    have e : Try.prog.cellsOf 33 = 1 := by kernel_rfl
    simpa [Value.cells, e] using q
  have g3 : DataW.trod enc Try.prog W 0 (fun _ => true) true n 51 (((cs.toList).drop 3).take 1) = some y3 := by
    have q := hfs 3 _ rfl
    have e : Try.prog.cellsOf 51 = 1 := by kernel_rfl
    simpa [Value.cells, e] using q
  clear hfs
  generalize hL : cs.toList = L at *
  obtain ⟨v0, u0⟩ : ∃ u, (L.drop 0).take 1 = [u] := one_of L 0 (by omega)
  rw [u0] at g0
  obtain ⟨al, lenl, capl, l0, rfl, r0, s0, t0, x0⟩ := open_ycell (d := y0.1) (p := y0.2) g0 (fun elems spare hd => sized_slice hin (j := 0) rfl (by rw [← hd]; rfl) Try.underlying36)
  have p0 : (L.drop 0).take 1 = [Value.slice al lenl capl] := u0
  have s0' : BS W (.slice al lenl capl) ((toY l0).map yv) := by rw [toY_yv _ s0.byt]; exact s0
  obtain ⟨v1, u1⟩ : ∃ u, (L.drop 1).take 1 = [u] := one_of L 1 (by omega)
  rw [u1] at g1
  obtain ⟨ar, lenr, capr, l1, rfl, r1, s1, t1, x1⟩ := open_ycell (d := y1.1) (p := y1.2) g1 (fun elems spare hd => sized_slice hin (j := 1) rfl (by rw [← hd]; rfl) Try.underlying36)
  have p1 : (L.drop 1).take 1 = [Value.slice ar lenr capr] := u1
  have s1' : BS W (.slice ar lenr capr) ((toY l1).map yv) := by rw [toY_yv _ s1.byt]; exact s1
  obtain ⟨c2, q2, _, w2⟩ := DataW.trod_int Try.underlying33 g2
  simp [Lit.wf, IntKind.min, IntKind.max, IntKind.signed, IntKind.bits] at w2
  obtain ⟨keep, rfl⟩ : ∃ m : Nat, c2 = (m : Int) := ⟨c2.toNat, by omega⟩
  have p2 : (L.drop 2).take 1 = [Value.int .u64 (keep : Int)] := q2
  obtain ⟨c3, q3, _, w3⟩ := DataW.trod_int Try.underlying51 g3
  simp [Lit.wf, IntKind.min, IntKind.max, IntKind.signed, IntKind.bits] at w3
  have p3 : (L.drop 3).take 1 = [Value.int .i8 c3] := q3
  refine ⟨al, lenl, capl, toY l0, ar, lenr, capr, toY l1, keep, c3, ?_, by rw [toY, List.length_map]; exact r0, s0', t0, x0, by rw [toY, List.length_map]; exact r1, s1', t1, x1, by omega, by omega, by omega⟩
  congr 1
  apply Array.ext'
  rw [hL, lostCells]
  rw [show L = L.drop 0 from rfl, lcut L 0 1, p0, lcut L 1 1, p1, lcut L 2 1, p2, lcut L 3 1, p3, List.drop_eq_nil_of_le (by omega), List.append_nil]
end
end Go.Proofs.Ytmfpdbmohebodaa
