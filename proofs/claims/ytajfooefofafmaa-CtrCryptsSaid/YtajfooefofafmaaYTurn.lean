/-
  The code on blocks: turned, unturned.
-/
import Derived.Test.YtajfooefofafmaaYSum
namespace Go.Proofs.Ytajfooefofafmaa
open Go.RowKit

set_option maxRecDepth 100000 in
set_option maxHeartbeats 1600000 in
theorem turned_any (a : List (BitVec 8)) (w : World) (ha : a.length = 16) :
    Calls Try.prog 37 #[.agg (yvs a)] w fun e w' => e = .returned (.agg (yvs (turnB a))) ∧ Below w.heap.size w w' := by
  have HAL := Lib.hid ha
  clear ha
  go_enter Try.func37, Try.ntmps37
  go_wp2
  refine ygen3 fun W0 hW => ?_
  obtain ⟨h0, h1, h2, hsz, hbel⟩ := hW
  have HX0 := Lib.hid (show ArrY W0 w.heap.size 55 a from h0)
  have HR := Lib.hid (show ArrY W0 (w.heap.size + 1) 55 (zeroY 16) from h1)
  have HM := Lib.hid (show ArrY W0 (w.heap.size + 1 + 1) 55 (zeroY 16) from h2)
  have HB := Lib.hid hbel
  clear h0 h1 h2 hsz hbel
  generalize hP0 : w.heap.size = P0 at *
  have HP0 := Lib.hid hP0
  clear hP0
  go_loopw [5] (fun v5 wr => ∃ i : Nat, i ≤ 16 ∧ v5 = .int .i64 (i : Nat) ∧ ArrY wr (P0 + 1 + 1) 55 (setF id (fun j => a.getD (org j) 0) i (zeroY 16)) ∧ Below (P0 + 1 + 1) W0 wr) (fun v _ => 16 - (intOf v).toNat)
  case atStart => exact ⟨0, by omega, rfl, HM.out, Below.refl _ _⟩
  case round =>
    obtain ⟨i, hi, rfl, hA, hb⟩ := hrel
    by_cases hlt : i < 16
    · have hX := HX0.out.below hb (show P0 < P0 + 1 + 1 by omega)
      have HO := Lib.hid (fun w => origin_any i w hlt)
      obtain ⟨q, hq, hq2⟩ : ∃ q, org i = q ∧ q < 16 := ⟨_, rfl, by unfold org; omega⟩
      rw [hq] at HO
      have cb := hX.cell (k := q) (by rw [HAL.out]; exact hq2)
      have ci := hA.cell (k := i) (by rw [setF_length]; exact hlt)
      have fi := hA.free i
      have HST := Lib.hid (show setF id (fun j => a.getD (org j) 0) (i + 1) (zeroY 16) = (setF id (fun j => a.getD (org j) 0) i (zeroY 16)).set i (a.getD q 0) from by rw [← hq]; rfl)
      have HA := Lib.hid hA
      have HB2 := Lib.hid hb
      have HLT := Lib.hid hlt
      have hiI : (i : Int) < 16 := by omega
      have hi0 : (0 : Int) ≤ (i : Int) := by omega
      have hqI : (q : Int) < 16 := by omega
      have hq0 : (0 : Int) ≤ (q : Int) := by omega
      generalize a.getD q 0 = x at *
      generalize (setF id (fun j => a.getD (org j) 0) i (zeroY 16)).getD i 0 = old at *
      clear hA hb hlt hi hX hq hq2
      go_wp2_with fail
      refine (HO.out _).mono ?_
      rintro e w1 ⟨rfl, rfl⟩
      go_wp2_with fail
      go_roundw
      case rel => exact ⟨i + 1, by have := HLT.out; omega, by go_num, by rw [HST.out]; exact HA.out.set i _, HB2.out.setCell (p := ⟨P0 + 1 + 1, i, none⟩) (Nat.le_refl _) _⟩
      case measure => simp [intOf]; omega
    · have hge : (16 : Int) ≤ (i : Int) := by omega
      obtain rfl : i = 16 := by omega
      rw [setF_map] at hA
      have HA := Lib.hid (show wr.heap[P0 + 1 + 1]? = some (.cells (yvs (turnB a)) 55 (0, 0)) from hA)
      have HR1 := Lib.hid (show wr.heap[P0 + 1]? = some (.cells (yvs (zeroY 16)) 55 (0, 0)) from HR.out.below hb (by omega))
      have SH := Lib.hid (size_block (turnB a) (turnB_length _))
      have SE := Lib.hid (show (yvs (zeroY 16)).size = (yvs (turnB a)).size by rw [yvs_size, yvs_size, turnB_length _]; rfl)
      have HB2 := Lib.hid (HB.out.trans (hb.mono (by omega)))
      clear hlt hi hA hb
      go_wp2_with (first
        | (with_reducible refine wpList_load_row (o := ⟨some 15, _, _, _, _, _⟩) rfl 55 _ rfl (P0 + 1 + 1) rfl 55 (yvs (turnB a)) (0, 0) _ HA.out Try.underlying55 rfl SH.out ?_)
        | (with_reducible refine wpList_store_row (o := ⟨none, .store _ (.tmp 2) _, _, _, _, _⟩) rfl 55 _ _ rfl (P0 + 1) (yvs (turnB a)) rfl rfl 55 (yvs (zeroY 16)) HR1.out SH.out SE.out (yvs_one _) ?_))
      refine bodyPost_ret (v := .agg (yvs (turnB a))) (results_cell_row Try.results37 _ _ (P0 + 1) 55 (yvs (turnB a)) (0, 0) _ rfl (setRow_heap _ (P0 + 1) _ (yvs (turnB a)) _ _ HR1.out) Try.underlying55 rfl SH.out) rfl ⟨rfl, ?_⟩
      rw [HP0.out]
      exact ybelow_row HB2.out (by omega) _
set_option maxRecDepth 100000 in
set_option maxHeartbeats 1600000 in
theorem unturned_any (a : List (BitVec 8)) (w : World) (ha : a.length = 16) :
    Calls Try.prog 43 #[.agg (yvs a)] w fun e w' => e = .returned (.agg (yvs (unturnB a))) ∧ Below w.heap.size w w' := by
  have HAL := Lib.hid ha
  clear ha
  go_enter Try.func43, Try.ntmps43
  go_wp2
  refine ygen3 fun W0 hW => ?_
  obtain ⟨h0, h1, h2, hsz, hbel⟩ := hW
  have HX0 := Lib.hid (show ArrY W0 w.heap.size 55 a from h0)
  have HR := Lib.hid (show ArrY W0 (w.heap.size + 1) 55 (zeroY 16) from h1)
  have HM := Lib.hid (show ArrY W0 (w.heap.size + 1 + 1) 55 (zeroY 16) from h2)
  have HB := Lib.hid hbel
  clear h0 h1 h2 hsz hbel
  generalize hP0 : w.heap.size = P0 at *
  have HP0 := Lib.hid hP0
  clear hP0
  go_loopw [5] (fun v5 wr => ∃ i : Nat, i ≤ 16 ∧ v5 = .int .i64 (i : Nat) ∧ ArrY wr (P0 + 1 + 1) 55 (setF org (fun j => a.getD j 0) i (zeroY 16)) ∧ Below (P0 + 1 + 1) W0 wr) (fun v _ => 16 - (intOf v).toNat)
  case atStart => exact ⟨0, by omega, rfl, HM.out, Below.refl _ _⟩
  case round =>
    obtain ⟨i, hi, rfl, hA, hb⟩ := hrel
    by_cases hlt : i < 16
    · have hX := HX0.out.below hb (show P0 < P0 + 1 + 1 by omega)
      have HO := Lib.hid (fun w => origin_any i w hlt)
      obtain ⟨q, hq, hq2⟩ : ∃ q, org i = q ∧ q < 16 := ⟨_, rfl, by unfold org; omega⟩
      rw [hq] at HO
      have cb := hX.cell (k := i) (by rw [HAL.out]; exact hlt)
      have ci := hA.cell (k := q) (by rw [setF_length]; exact hq2)
      have fi := hA.free q
      have HST := Lib.hid (show setF org (fun j => a.getD j 0) (i + 1) (zeroY 16) = (setF org (fun j => a.getD j 0) i (zeroY 16)).set q (a.getD i 0) from by rw [← hq]; rfl)
      have HA := Lib.hid hA
      have HB2 := Lib.hid hb
      have HLT := Lib.hid hlt
      have hiI : (i : Int) < 16 := by omega
      have hi0 : (0 : Int) ≤ (i : Int) := by omega
      have hqI : (q : Int) < 16 := by omega
      have hq0 : (0 : Int) ≤ (q : Int) := by omega
      generalize a.getD i 0 = x at *
      generalize (setF org (fun j => a.getD j 0) i (zeroY 16)).getD q 0 = old at *
      clear hA hb hlt hi hX hq hq2
      go_wp2_with fail
      go_region_held3 (fun w' => w'.cell? ⟨P0, i, none⟩ = some (.int .u8 (yv x)))
        (first
          | exact cb
          | exact (World.cell?_setCell_other _ _ _ _ (by intro h; injection h; omega)).trans cb)
        ((go_at_call 50; refine (HO.out _).mono ?_; rintro e w1 ⟨rfl, rfl⟩))
      go_wp2_with fail
      go_roundw
      case rel => exact ⟨i + 1, by have := HLT.out; omega, by go_num, by rw [HST.out]; exact ArrY.set (w := _) HA.out q _, (HB2.out.drew).setCell (p := ⟨P0 + 1 + 1, q, none⟩) (Nat.le_refl _) _⟩
      case measure => simp [intOf]; omega
    · have hge : (16 : Int) ≤ (i : Int) := by omega
      obtain rfl : i = 16 := by omega
      have HA := Lib.hid (show wr.heap[P0 + 1 + 1]? = some (.cells (yvs (unturnB a)) 55 (0, 0)) from hA)
      have HR1 := Lib.hid (show wr.heap[P0 + 1]? = some (.cells (yvs (zeroY 16)) 55 (0, 0)) from HR.out.below hb (by omega))
      have SH := Lib.hid (size_block (unturnB a) (unturnB_length _))
      have SE := Lib.hid (show (yvs (zeroY 16)).size = (yvs (unturnB a)).size by rw [yvs_size, yvs_size, unturnB_length _]; rfl)
      have HB2 := Lib.hid (HB.out.trans (hb.mono (by omega)))
      clear hlt hi hA hb
      go_wp2_with (first
        | (with_reducible refine wpList_load_row (o := ⟨some 15, _, _, _, _, _⟩) rfl 55 _ rfl (P0 + 1 + 1) rfl 55 (yvs (unturnB a)) (0, 0) _ HA.out Try.underlying55 rfl SH.out ?_)
        | (with_reducible refine wpList_store_row (o := ⟨none, .store _ (.tmp 2) _, _, _, _, _⟩) rfl 55 _ _ rfl (P0 + 1) (yvs (unturnB a)) rfl rfl 55 (yvs (zeroY 16)) HR1.out SH.out SE.out (yvs_one _) ?_))
      refine bodyPost_ret (v := .agg (yvs (unturnB a))) (results_cell_row Try.results43 _ _ (P0 + 1) 55 (yvs (unturnB a)) (0, 0) _ rfl (setRow_heap _ (P0 + 1) _ (yvs (unturnB a)) _ _ HR1.out) Try.underlying55 rfl SH.out) rfl ⟨rfl, ?_⟩
      rw [HP0.out]
      exact ybelow_row HB2.out (by omega) _
end Go.Proofs.Ytajfooefofafmaa
