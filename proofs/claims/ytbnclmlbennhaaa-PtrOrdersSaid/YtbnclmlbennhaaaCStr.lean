/-
  ctr's Stream.
-/
import Derived.Test.YtbnclmlbennhaaaCMade
namespace Go.Proofs.Ytbnclmlbennhaaa
set_option maxRecDepth 4000
open Go.RowKit

theorem slice_from (g d n : Nat) (h : d < n) (W : World) : (Instr.slice 28 (.slice (some ⟨g, 0, none⟩) n n) (some (.int .i64 (d : Int))) none none).run Try.prog W = .ok (.slice (some ⟨g, d, none⟩) (n - d) (n - d)) W := by
  obtain ⟨i0, hi0, hs⟩ := Option.map_eq_some_iff.1 yone
  have b := ybound_ok d n .sliceB (by omega) W
  have h2 : ¬ n = d := by omega
  simp [Instr.slice, run_underlying Try.underlying28, Instr.sliceBounds, sizeOf, typeInfo, hi0, hs, Addr.add_mid, b, h2]
theorem info_byte : (Try.prog.info? 5).map (fun i => (i.zero, i.size, i.bytes)) = some (some (.int .u8 0), 1, 1) := by kernel_rfl
theorem make_bytes (n : Nat) (h : n ≤ 100000000) (w : World) : (Instr.makeSlice 28 (.int .i64 (n : Int)) (.int .i64 (n : Int))).run Try.prog w = .ok (.slice (some ⟨w.heap.size, 0, none⟩) n n) (w.alloc (.cells (yvs (zeroY n)) 5)) := by
  rw [run_make_row' 28 5 (.int .u8 0) 1 Try.underlying28 info_byte rfl .i64 .i64 n (by omega) (by omega) w, made_zero]
theorem min_facts (a b c : Nat) (h : Nat.min a b = c) (ha : 0 < a) (hb : 0 < b) : c ≤ a ∧ c ≤ b ∧ 0 < c := by
  subst h; exact ⟨Nat.min_le_left _ _, Nat.min_le_right _ _, Nat.lt_min.2 ⟨ha, hb⟩⟩
theorem putL_at {M ys : List (BitVec 8)} {o j : Nat} (h : o + ys.length ≤ M.length) (hj : j < ys.length) : (putL M o ys).getD (o + j) 0 = ys.getD j 0 := by
  have h1 : o ≤ M.length := by omega
  simp only [putL, List.getD]
  rw [List.append_assoc, List.getElem?_append_right (by simp; omega), List.getElem?_append_left (by simp; omega)]
  simp [Nat.min_eq_left h1]
theorem putL_before {M ys : List (BitVec 8)} {o j : Nat} (h : o ≤ M.length) (hj : j < o) : (putL M o ys).getD j 0 = M.getD j 0 := by
  simp only [putL, List.getD]
  rw [List.append_assoc, List.getElem?_append_left (by simp; omega)]
  simp [hj]

end Go.Proofs.Ytbnclmlbennhaaa
