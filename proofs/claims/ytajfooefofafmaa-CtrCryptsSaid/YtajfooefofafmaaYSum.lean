/-
  The code on blocks, a round's parts: summed, boxed, unboxed, turned, unturned.
-/
import Derived.Test.YtajfooefofafmaaYSmall
namespace Go.Proofs.Ytajfooefofafmaa
open Go.RowKit

set_option maxRecDepth 100000 in
set_option maxHeartbeats 1600000 in
theorem summed_any (a b : List (BitVec 8)) (w : World) (ha : a.length = 16) (hb : b.length = 16) :
    Calls Try.prog 35 #[.agg (yvs a), .agg (yvs b)] w fun e w' => e = .returned (.agg (yvs (sumB a b))) ∧ Below w.heap.size w w' := by
  have HAL := Lib.hid ha
  have HBL := Lib.hid hb
  have HIB := Lib.hid (yindex_block b hb)
  have SB := Lib.hid (size_block b hb)
  clear ha hb
  go_enter Try.func35, Try.ntmps35
  go_wp2_with (first
    | (with_reducible refine wpList_load_row (o := ⟨some 7, _, _, _, _, _⟩) rfl 55 _ rfl (w.heap.size + 1) rfl 55 (yvs b) (0, 0) _ (ythree w _ _ _).2.1 Try.underlying55 rfl SB.out ?_))
  refine ygen3 fun W0 hW => ?_
  obtain ⟨h0, _, h2, hsz, hbel⟩ := hW
  have HX0 := Lib.hid (show ArrY W0 w.heap.size 55 a from h0)
  have HR := Lib.hid (show ArrY W0 (w.heap.size + 1 + 1) 55 (zeroY 16) from h2)
  have HB := Lib.hid hbel
  clear h0 h2 hsz hbel
  generalize hP0 : w.heap.size = P0 at *
  have HP0 := Lib.hid hP0
  clear hP0
  go_loopw [8] (fun v8 wr => ∃ i : Nat, i ≤ 16 ∧ v8 = .int .i64 (i : Nat) ∧ ArrY wr P0 55 (setF id (fun j => a.getD j 0 ^^^ b.getD j 0) i a) ∧ ArrY wr (P0 + 1 + 1) 55 (zeroY 16) ∧ Below P0 w wr) (fun v _ => 16 - (intOf v).toNat)
  case atStart => exact ⟨0, by omega, rfl, HX0.out, HR.out, HB.out⟩
  case round =>
    obtain ⟨i, hi, rfl, hA, hR, hb⟩ := hrel
    by_cases hlt : i < 16
    · have hix := HIB.out i hlt
      have ci := hA.cell (k := i) (by rw [setF_length, HAL.out]; exact hlt)
      rw [setF_id] at ci
      have fi := hA.free i
      have hx := yv_xor (a.getD i 0) (b.getD i 0)
      have HST := Lib.hid (show setF id (fun j => a.getD j 0 ^^^ b.getD j 0) (i + 1) a = (setF id (fun j => a.getD j 0 ^^^ b.getD j 0) i a).set i (a.getD i 0 ^^^ b.getD i 0) from rfl)
      have HA := Lib.hid hA
      have HR2 := Lib.hid hR
      have HB2 := Lib.hid hb
      have HLT := Lib.hid hlt
      have hiI : (i : Int) < 16 := by omega
      have hi0 : (0 : Int) ≤ (i : Int) := by omega
      generalize a.getD i 0 = x at *
      generalize b.getD i 0 = y at *
      clear hA hR hb hlt hi
      go_wp2_with fail
      go_roundw
      case rel => exact ⟨i + 1, by have := HLT.out; omega, by go_num, by rw [HST.out]; exact HA.out.set i _, HR2.out.other _ _ (show P0 + 1 + 1 ≠ P0 by omega), HB2.out.setCell (p := ⟨P0, i, none⟩) (Nat.le_refl _) _⟩
      case measure => simp [intOf]; omega
    · have hge : (16 : Int) ≤ (i : Int) := by omega
      obtain rfl : i = 16 := by omega
      have e := setF_sum a b HAL.out HBL.out
      rw [e] at hA
      have HA := Lib.hid (show wr.heap[P0]? = some (.cells (yvs (sumB a b)) 55 (0, 0)) from hA)
      have HR1 := Lib.hid (show wr.heap[P0 + 1 + 1]? = some (.cells (yvs (zeroY 16)) 55 (0, 0)) from hR)
      have SH := Lib.hid (size_block (sumB a b) (sumB_length a b 16 HAL.out HBL.out))
      have SE := Lib.hid (show (yvs (zeroY 16)).size = (yvs (sumB a b)).size by rw [yvs_size, yvs_size, sumB_length a b 16 HAL.out HBL.out]; rfl)
      have HB2 := Lib.hid hb
      clear hlt hi hA hb e hR
      go_wp2_with (first
        | (with_reducible refine wpList_load_row (o := ⟨some 19, _, _, _, _, _⟩) rfl 55 _ rfl (P0) rfl 55 (yvs (sumB a b)) (0, 0) _ HA.out Try.underlying55 rfl SH.out ?_)
        | (with_reducible refine wpList_store_row (o := ⟨none, .store _ (.tmp 4) _, _, _, _, _⟩) rfl 55 _ _ rfl (P0 + 1 + 1) (yvs (sumB a b)) rfl rfl 55 (yvs (zeroY 16)) HR1.out SH.out SE.out (yvs_one _) ?_))
      refine bodyPost_ret (v := .agg (yvs (sumB a b))) (results_cell_row Try.results35 _ _ (P0 + 1 + 1) 55 (yvs (sumB a b)) (0, 0) _ rfl (setRow_heap _ (P0 + 1 + 1) _ (yvs (sumB a b)) _ _ HR1.out) Try.underlying55 rfl SH.out) rfl ⟨rfl, ?_⟩
      rw [HP0.out]
      exact ybelow_row HB2.out (by omega) _
set_option maxRecDepth 100000 in
set_option maxHeartbeats 1600000 in
theorem boxed_any (a : List (BitVec 8)) (w : World) (ha : a.length = 16) :
    Calls Try.prog 38 #[.agg (yvs a)] w fun e w' => e = .returned (.agg (yvs (boxB a))) ∧ Below w.heap.size w w' := by
  have HAL := Lib.hid ha
  have HIB := Lib.hid (yindex_block a ha)
  have SB := Lib.hid (size_block a ha)
  clear ha
  go_enter Try.func38, Try.ntmps38
  go_wp2_with (first
    | (with_reducible refine wpList_load_row (o := ⟨some 5, _, _, _, _, _⟩) rfl 55 _ rfl w.heap.size rfl 55 (yvs a) (0, 0) _ (ytwo w _ _).1 Try.underlying55 rfl SB.out ?_))
  refine ygen2 fun W0 hW => ?_
  obtain ⟨h0, h2, hsz, hbel⟩ := hW
  have HX0 := Lib.hid (show ArrY W0 w.heap.size 55 a from h0)
  have HR := Lib.hid (show ArrY W0 (w.heap.size + 1) 55 (zeroY 16) from h2)
  have HB := Lib.hid hbel
  have HZ := Lib.hid (show w.heap.size < W0.heap.size by omega)
  clear h0 h2 hsz hbel
  generalize hP0 : w.heap.size = P0 at *
  have HP0 := Lib.hid hP0
  clear hP0
  go_loopw [6] (fun v6 wr => ∃ i : Nat, i ≤ 16 ∧ v6 = .int .i64 (i : Nat) ∧ ArrY wr P0 55 (setF id (fun j => sbox (a.getD j 0)) i a) ∧ ArrY wr (P0 + 1) 55 (zeroY 16) ∧ Below P0 w wr) (fun v _ => 16 - (intOf v).toNat)
  case atStart => exact ⟨0, by omega, rfl, HX0.out, HR.out, HB.out⟩
  case round =>
    obtain ⟨i, hi, rfl, hA, hR, hb⟩ := hrel
    by_cases hlt : i < 16
    · have hix := HIB.out i hlt
      have ci := hA.cell (k := i) (by rw [setF_length, HAL.out]; exact hlt)
      rw [setF_id] at ci
      have fi := hA.free i
      have HC := Lib.hid (fun w => box_any (a.getD i 0) w)
      have HST := Lib.hid (show setF id (fun j => sbox (a.getD j 0)) (i + 1) a = (setF id (fun j => sbox (a.getD j 0)) i a).set i (sbox (a.getD i 0)) from rfl)
      have HA := Lib.hid hA
      have HR2 := Lib.hid hR
      have HB2 := Lib.hid hb
      have HLT := Lib.hid hlt
      have hiI : (i : Int) < 16 := by omega
      have hi0 : (0 : Int) ≤ (i : Int) := by omega
      generalize a.getD i 0 = x at *
      clear hA hR hb hlt hi
      go_wp2_with fail
      refine (HC.out _).mono ?_
      rintro e w1 ⟨rfl, rfl⟩
      go_wp2_with fail
      go_roundw
      case rel => exact ⟨i + 1, by have := HLT.out; omega, by go_num, by rw [HST.out]; exact HA.out.set i _, HR2.out.other _ _ (show P0 + 1 ≠ P0 by omega), HB2.out.setCell (p := ⟨P0, i, none⟩) (Nat.le_refl _) _⟩
      case measure => simp [intOf]; omega
    · have hge : (16 : Int) ≤ (i : Int) := by omega
      obtain rfl : i = 16 := by omega
      have e := setF_box sbox a HAL.out
      rw [e] at hA
      have HA := Lib.hid (show wr.heap[P0]? = some (.cells (yvs (boxB a)) 55 (0, 0)) from hA)
      have HR1 := Lib.hid (show wr.heap[P0 + 1]? = some (.cells (yvs (zeroY 16)) 55 (0, 0)) from hR)
      have SH := Lib.hid (size_block (boxB a) ((boxB_length a).trans HAL.out))
      have SE := Lib.hid (show (yvs (zeroY 16)).size = (yvs (boxB a)).size by rw [yvs_size, yvs_size, boxB_length, HAL.out]; rfl)
      have HB2 := Lib.hid hb
      clear hlt hi hA hb e hR
      go_wp2_with (first
        | (with_reducible refine wpList_load_row (o := ⟨some 15, _, _, _, _, _⟩) rfl 55 _ rfl (P0) rfl 55 (yvs (boxB a)) (0, 0) _ HA.out Try.underlying55 rfl SH.out ?_)
        | (with_reducible refine wpList_store_row (o := ⟨none, .store _ (.tmp 2) _, _, _, _, _⟩) rfl 55 _ _ rfl (P0 + 1) (yvs (boxB a)) rfl rfl 55 (yvs (zeroY 16)) HR1.out SH.out SE.out (yvs_one _) ?_))
      refine bodyPost_ret (v := .agg (yvs (boxB a))) (results_cell_row Try.results38 _ _ (P0 + 1) 55 (yvs (boxB a)) (0, 0) _ rfl (setRow_heap _ (P0 + 1) _ (yvs (boxB a)) _ _ HR1.out) Try.underlying55 rfl SH.out) rfl ⟨rfl, ?_⟩
      rw [HP0.out]
      exact ybelow_row HB2.out (by omega) _
set_option maxRecDepth 100000 in
set_option maxHeartbeats 1600000 in
theorem unboxed_any (a : List (BitVec 8)) (w : World) (ha : a.length = 16) :
    Calls Try.prog 42 #[.agg (yvs a)] w fun e w' => e = .returned (.agg (yvs (unboxB a))) ∧ Below w.heap.size w w' := by
  have HAL := Lib.hid ha
  have HIB := Lib.hid (yindex_block a ha)
  have SB := Lib.hid (size_block a ha)
  clear ha
  go_enter Try.func42, Try.ntmps42
  go_wp2_with (first
    | (with_reducible refine wpList_load_row (o := ⟨some 5, _, _, _, _, _⟩) rfl 55 _ rfl w.heap.size rfl 55 (yvs a) (0, 0) _ (ytwo w _ _).1 Try.underlying55 rfl SB.out ?_))
  refine ygen2 fun W0 hW => ?_
  obtain ⟨h0, h2, hsz, hbel⟩ := hW
  have HX0 := Lib.hid (show ArrY W0 w.heap.size 55 a from h0)
  have HR := Lib.hid (show ArrY W0 (w.heap.size + 1) 55 (zeroY 16) from h2)
  have HB := Lib.hid hbel
  have HZ := Lib.hid (show w.heap.size < W0.heap.size by omega)
  clear h0 h2 hsz hbel
  generalize hP0 : w.heap.size = P0 at *
  have HP0 := Lib.hid hP0
  clear hP0
  go_loopw [6] (fun v6 wr => ∃ i : Nat, i ≤ 16 ∧ v6 = .int .i64 (i : Nat) ∧ ArrY wr P0 55 (setF id (fun j => ubox (a.getD j 0)) i a) ∧ ArrY wr (P0 + 1) 55 (zeroY 16) ∧ Below P0 w wr) (fun v _ => 16 - (intOf v).toNat)
  case atStart => exact ⟨0, by omega, rfl, HX0.out, HR.out, HB.out⟩
  case round =>
    obtain ⟨i, hi, rfl, hA, hR, hb⟩ := hrel
    by_cases hlt : i < 16
    · have hix := HIB.out i hlt
      have ci := hA.cell (k := i) (by rw [setF_length, HAL.out]; exact hlt)
      rw [setF_id] at ci
      have fi := hA.free i
      have HC := Lib.hid (fun w => unbox_any (a.getD i 0) w)
      have HST := Lib.hid (show setF id (fun j => ubox (a.getD j 0)) (i + 1) a = (setF id (fun j => ubox (a.getD j 0)) i a).set i (ubox (a.getD i 0)) from rfl)
      have HA := Lib.hid hA
      have HR2 := Lib.hid hR
      have HB2 := Lib.hid hb
      have HLT := Lib.hid hlt
      have hiI : (i : Int) < 16 := by omega
      have hi0 : (0 : Int) ≤ (i : Int) := by omega
      generalize a.getD i 0 = x at *
      clear hA hR hb hlt hi
      go_wp2_with fail
      refine (HC.out _).mono ?_
      rintro e w1 ⟨rfl, rfl⟩
      go_wp2_with fail
      go_roundw
      case rel => exact ⟨i + 1, by have := HLT.out; omega, by go_num, by rw [HST.out]; exact HA.out.set i _, HR2.out.other _ _ (show P0 + 1 ≠ P0 by omega), HB2.out.setCell (p := ⟨P0, i, none⟩) (Nat.le_refl _) _⟩
      case measure => simp [intOf]; omega
    · have hge : (16 : Int) ≤ (i : Int) := by omega
      obtain rfl : i = 16 := by omega
      have e := setF_box ubox a HAL.out
      rw [e] at hA
      have HA := Lib.hid (show wr.heap[P0]? = some (.cells (yvs (unboxB a)) 55 (0, 0)) from hA)
      have HR1 := Lib.hid (show wr.heap[P0 + 1]? = some (.cells (yvs (zeroY 16)) 55 (0, 0)) from hR)
      have SH := Lib.hid (size_block (unboxB a) ((unboxB_length a).trans HAL.out))
      have SE := Lib.hid (show (yvs (zeroY 16)).size = (yvs (unboxB a)).size by rw [yvs_size, yvs_size, unboxB_length, HAL.out]; rfl)
      have HB2 := Lib.hid hb
      clear hlt hi hA hb e hR
      go_wp2_with (first
        | (with_reducible refine wpList_load_row (o := ⟨some 15, _, _, _, _, _⟩) rfl 55 _ rfl (P0) rfl 55 (yvs (unboxB a)) (0, 0) _ HA.out Try.underlying55 rfl SH.out ?_)
        | (with_reducible refine wpList_store_row (o := ⟨none, .store _ (.tmp 2) _, _, _, _, _⟩) rfl 55 _ _ rfl (P0 + 1) (yvs (unboxB a)) rfl rfl 55 (yvs (zeroY 16)) HR1.out SH.out SE.out (yvs_one _) ?_))
      refine bodyPost_ret (v := .agg (yvs (unboxB a))) (results_cell_row Try.results42 _ _ (P0 + 1) 55 (yvs (unboxB a)) (0, 0) _ rfl (setRow_heap _ (P0 + 1) _ (yvs (unboxB a)) _ _ HR1.out) Try.underlying55 rfl SH.out) rfl ⟨rfl, ?_⟩
      rw [HP0.out]
      exact ybelow_row HB2.out (by omega) _
end Go.Proofs.Ytajfooefofafmaa
