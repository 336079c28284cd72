/-
  The reference's sum of two blocks; what bytes were.
-/
import Derived.Test.YtfgdddejpdjllaaDoorRBox
import Derived.Test.YtfgdddejpdjllaaDoorYEq
namespace Go.Proofs.YtfgdddejpdjllaaDoor
set_option maxRecDepth 4000
open Go.RowKit

theorem info_b16 : (Tryd.prog.info? 70).map (·.size) = some 16 := by kernel_rfl
theorem size_b16 (l : List (BitVec 8)) (h : l.length = 16) : (Tryd.prog.info? 70).map (·.size) = some (yvs l).size := by rw [info_b16, yvs_size, h]
theorem info_t256 : (Tryd.prog.info? 38).map (·.size) = some 256 := by kernel_rfl
theorem size_t256 (l : List (BitVec 8)) (h : l.length = 256) : (Tryd.prog.info? 38).map (·.size) = some (yvs l).size := by rw [info_t256, yvs_size, h]
theorem zero_t256 (W : World) : (zeroValue 38).run Tryd.prog W = .ok (.agg (yvs (zeroY 256))) W := by kernel_rfl
theorem yindex_t256 (l : List (BitVec 8)) (hl : l.length = 256) (k : Nat) (h : k < 256) (w : World) : (Instr.index 38 (.agg (yvs l)) (.int .i64 (k : Int))).run Tryd.prog w = .ok (.int .u8 (yv (l.getD k 0))) w := by
  obtain ⟨i0, hi, hs⟩ := Option.map_eq_some_iff.1 yone
  exact yindex_agg _ _ _ _ k _ i0 _ Tryd.underlying38 Tryd.underlying5 rfl hi hs h (yvs_at l k (by omega)) w

set_option maxRecDepth 100000 in
set_option maxHeartbeats 1600000 in
theorem rsumb_any (a b : List (BitVec 8)) (w : World) (ha : a.length = 16) (hb : b.length = 16) :
    Calls Tryd.prog 83 #[.agg (yvs a), .agg (yvs b)] w fun e w' => e = .returned (.agg (yvs (sumB a b))) ∧ Below w.heap.size w w' := by
  have HAL := Lib.hid ha
  have HBL := Lib.hid hb
  clear ha hb
  go_enter Tryd.func83, Tryd.ntmps83
  go_wp2
  refine ygen3 fun W0 hW => ?_
  obtain ⟨h0, h1, h2, hsz, hbel⟩ := hW
  have HX0 := Lib.hid (show ArrY W0 w.heap.size 70 a from h0)
  have HX1 := Lib.hid (show ArrY W0 (w.heap.size + 1) 70 b from h1)
  have HR := Lib.hid (show ArrY W0 (w.heap.size + 1 + 1) 70 (zeroY 16) from h2)
  have HB := Lib.hid hbel
  clear h0 h1 h2 hsz hbel
  generalize hP0 : w.heap.size = P0 at *
  have HP0 := Lib.hid hP0
  clear hP0
  go_loopw [6] (fun v6 wr => ∃ i : Nat, i ≤ 16 ∧ v6 = .int .i64 (i : Nat) ∧ ArrY wr P0 70 (setF id (fun j => a.getD j 0 ^^^ b.getD j 0) i a) ∧ ArrY wr (P0 + 1) 70 b ∧ ArrY wr (P0 + 1 + 1) 70 (zeroY 16) ∧ Below P0 w wr) (fun v _ => 16 - (intOf v).toNat)
  case atStart => exact ⟨0, by omega, rfl, HX0.out, HX1.out, HR.out, HB.out⟩
  case round =>
    obtain ⟨i, hi, rfl, hA, hX, hR, hb⟩ := hrel
    by_cases hlt : i < 16
    · have ci := hA.cell (k := i) (by rw [setF_length, HAL.out]; exact hlt)
      rw [setF_id] at ci
      have fi := hA.free i
      have cx := hX.cell (k := i) (by rw [HBL.out]; exact hlt)
      have hx := yv_xor (a.getD i 0) (b.getD i 0)
      have HST := Lib.hid (show setF id (fun j => a.getD j 0 ^^^ b.getD j 0) (i + 1) a = (setF id (fun j => a.getD j 0 ^^^ b.getD j 0) i a).set i (a.getD i 0 ^^^ b.getD i 0) from rfl)
      have HA := Lib.hid (And.intro hA (And.intro hX hR))
      have HB2 := Lib.hid hb
      have HLT := Lib.hid hlt
      have hiI : (i : Int) < 16 := by omega
      have hi0 : (0 : Int) ≤ (i : Int) := by omega
      generalize a.getD i 0 = x at *
      generalize b.getD i 0 = y at *
      clear hA hX hR hb hlt hi
      go_wp2_with fail
      go_region
      go_wp2_with fail
      go_roundw
      case rel => exact ⟨i + 1, by have := HLT.out; omega, by go_num, by rw [HST.out]; exact ArrY.set (w := wr) HA.out.1 i _, ArrY.other (w := wr) HA.out.2.1 _ _ (show P0 + 1 ≠ P0 by omega), ArrY.other (w := wr) HA.out.2.2 _ _ (show P0 + 1 + 1 ≠ P0 by omega), (HB2.out.setCell (p := ⟨P0, i, none⟩) (Nat.le_refl _) _).drew⟩
      case measure => simp [intOf]; omega
    · have hge : (16 : Int) ≤ (i : Int) := by omega
      obtain rfl : i = 16 := by omega
      have e := setF_sum a b HAL.out HBL.out
      rw [e] at hA
      have HA := Lib.hid (show wr.heap[P0]? = some (.cells (yvs (sumB a b)) 70 (0, 0)) from hA)
      have HR1 := Lib.hid (show wr.heap[P0 + 1 + 1]? = some (.cells (yvs (zeroY 16)) 70 (0, 0)) from hR)
      have SH := Lib.hid (size_b16 (sumB a b) (sumB_length a b 16 HAL.out HBL.out))
      have SE := Lib.hid (show (yvs (zeroY 16)).size = (yvs (sumB a b)).size by rw [yvs_size, yvs_size, sumB_length a b 16 HAL.out HBL.out]; rfl)
      have HB2 := Lib.hid hb
      clear hlt hi hA hb e hR hX
      go_wp2_with (first
        | (with_reducible refine wpList_load_row (o := ⟨some 18, _, _, _, _, _⟩) rfl 70 _ rfl P0 rfl 70 (yvs (sumB a b)) (0, 0) _ HA.out Tryd.underlying70 rfl SH.out ?_)
        | (with_reducible refine wpList_store_row (o := ⟨none, .store _ (.tmp 4) _, _, _, _, _⟩) rfl 70 _ _ rfl (P0 + 1 + 1) (yvs (sumB a b)) rfl rfl 70 (yvs (zeroY 16)) HR1.out SH.out SE.out (yvs_one _) ?_))
      refine bodyPost_ret (v := .agg (yvs (sumB a b))) (results_cell_row Tryd.results83 _ _ (P0 + 1 + 1) 70 (yvs (sumB a b)) (0, 0) _ rfl (setRow_heap _ (P0 + 1 + 1) _ (yvs (sumB a b)) _ _ HR1.out) Tryd.underlying70 rfl SH.out) rfl ⟨rfl, ?_⟩
      rw [HP0.out]
      exact ybelow_row HB2.out (by omega) _

theorem yv_toNat (b : BitVec 8) : (yv b).toNat = b.toNat := by unfold yv; simp
theorem back_full : setF (fun i => (boxesL.getD i 0).toNat) (fun i => BitVec.ofNat 8 i) 256 (zeroY 256) = unboxesL := by decide +kernel
end Go.Proofs.YtfgdddejpdjllaaDoor
