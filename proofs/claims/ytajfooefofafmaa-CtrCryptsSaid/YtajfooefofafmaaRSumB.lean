/-
  The reference's sum of two blocks; what bytes were.
-/
import Derived.Test.YtajfooefofafmaaRBox
import Derived.Test.YtajfooefofafmaaYEq
namespace Go.Proofs.Ytajfooefofafmaa
open Go.RowKit

theorem info_b16 : (Try.prog.info? 54).map (·.size) = some 16 := by kernel_rfl
theorem size_b16 (l : List (BitVec 8)) (h : l.length = 16) : (Try.prog.info? 54).map (·.size) = some (yvs l).size := by rw [info_b16, yvs_size, h]
theorem info_t256 : (Try.prog.info? 37).map (·.size) = some 256 := by kernel_rfl
theorem size_t256 (l : List (BitVec 8)) (h : l.length = 256) : (Try.prog.info? 37).map (·.size) = some (yvs l).size := by rw [info_t256, yvs_size, h]
theorem zero_t256 (W : World) : (zeroValue 37).run Try.prog W = .ok (.agg (yvs (zeroY 256))) W := by kernel_rfl
theorem yindex_t256 (l : List (BitVec 8)) (hl : l.length = 256) (k : Nat) (h : k < 256) (w : World) : (Instr.index 37 (.agg (yvs l)) (.int .i64 (k : Int))).run Try.prog w = .ok (.int .u8 (yv (l.getD k 0))) w := by
  obtain ⟨i0, hi, hs⟩ := Option.map_eq_some_iff.1 yone
  exact yindex_agg _ _ _ _ k _ i0 _ Try.underlying37 Try.underlying5 rfl hi hs h (yvs_at l k (by omega)) w

set_option maxRecDepth 100000 in
set_option maxHeartbeats 1600000 in
theorem rsumb_any (a b : List (BitVec 8)) (w : World) (ha : a.length = 16) (hb : b.length = 16) :
    Calls Try.prog 40 #[.agg (yvs a), .agg (yvs b)] w fun e w' => e = .returned (.agg (yvs (sumB a b))) ∧ Below w.heap.size w w' := by
  have HAL := Lib.hid ha
  have HBL := Lib.hid hb
  clear ha hb
  go_enter Try.func40, Try.ntmps40
  go_wp2
  refine ygen3 fun W0 hW => ?_
  obtain ⟨h0, h1, h2, hsz, hbel⟩ := hW
  have HX0 := Lib.hid (show ArrY W0 w.heap.size 54 a from h0)
  have HX1 := Lib.hid (show ArrY W0 (w.heap.size + 1) 54 b from h1)
  have HR := Lib.hid (show ArrY W0 (w.heap.size + 1 + 1) 54 (zeroY 16) from h2)
  have HB := Lib.hid hbel
  clear h0 h1 h2 hsz hbel
  generalize hP0 : w.heap.size = P0 at *
  have HP0 := Lib.hid hP0
  clear hP0
  go_loopw [6] (fun v6 wr => ∃ i : Nat, i ≤ 16 ∧ v6 = .int .i64 (i : Nat) ∧ ArrY wr P0 54 (setF id (fun j => a.getD j 0 ^^^ b.getD j 0) i a) ∧ ArrY wr (P0 + 1) 54 b ∧ ArrY wr (P0 + 1 + 1) 54 (zeroY 16) ∧ Below P0 w wr) (fun v _ => 16 - (intOf v).toNat)
  case atStart => exact ⟨0, by omega, rfl, HX0.out, HX1.out, HR.out, HB.out⟩
  case round =>
    obtain ⟨i, hi, rfl, hA, hX, hR, hb⟩ := hrel
    by_cases hlt : i < 16
    · have ci := hA.cell (k := i) (by rw [setF_length, HAL.out]; exact hlt)
      rw [setF_id] at ci
      have fi := hA.free i
      have cx := hX.cell (k := i) (by rw [HBL.out]; exact hlt)
      have hx := yv_xor (a.getD i 0) (b.getD i 0)
      have HST := Lib.hid (show setF id (fun j => a.getD j 0 ^^^ b.getD j 0) (i + 1) a = (setF id (fun j => a.getD j 0 ^^^ b.getD j 0) i a).set i (a.getD i 0 ^^^ b.getD i 0) from rfl)
      have HA := Lib.hid (And.intro hA (And.intro hX hR))
      have HB2 := Lib.hid hb
      have HLT := Lib.hid hlt
      have hiI : (i : Int) < 16 := by omega
      have hi0 : (0 : Int) ≤ (i : Int) := by omega
      generalize a.getD i 0 = x at *
      generalize b.getD i 0 = y at *
      clear hA hX hR hb hlt hi
      go_wp2_with fail
      go_region
      go_wp2_with fail
      go_roundw
      case rel => exact ⟨i + 1, by have := HLT.out; omega, by go_num, by rw [HST.out]; exact ArrY.set (w := wr) HA.out.1 i _, ArrY.other (w := wr) HA.out.2.1 _ _ (show P0 + 1 ≠ P0 by omega), ArrY.other (w := wr) HA.out.2.2 _ _ (show P0 + 1 + 1 ≠ P0 by omega), (HB2.out.setCell (p := ⟨P0, i, none⟩) (Nat.le_refl _) _).drew⟩
      case measure => simp [intOf]; omega
    · have hge : (16 : Int) ≤ (i : Int) := by omega
      obtain rfl : i = 16 := by omega
      have e := setF_sum a b HAL.out HBL.out
      rw [e] at hA
      have HA := Lib.hid (show wr.heap[P0]? = some (.cells (yvs (sumB a b)) 54 (0, 0)) from hA)
      have HR1 := Lib.hid (show wr.heap[P0 + 1 + 1]? = some (.cells (yvs (zeroY 16)) 54 (0, 0)) from hR)
      have SH := Lib.hid (size_b16 (sumB a b) (sumB_length a b 16 HAL.out HBL.out))
      have SE := Lib.hid (show (yvs (zeroY 16)).size = (yvs (sumB a b)).size by rw [yvs_size, yvs_size, sumB_length a b 16 HAL.out HBL.out]; rfl)
      have HB2 := Lib.hid hb
      clear hlt hi hA hb e hR hX
      go_wp2_with (first
        | (with_reducible refine wpList_load_row (o := ⟨some 18, _, _, _, _, _⟩) rfl 54 _ rfl P0 rfl 54 (yvs (sumB a b)) (0, 0) _ HA.out Try.underlying54 rfl SH.out ?_)
        | (with_reducible refine wpList_store_row (o := ⟨none, .store _ (.tmp 4) _, _, _, _, _⟩) rfl 54 _ _ rfl (P0 + 1 + 1) (yvs (sumB a b)) rfl rfl 54 (yvs (zeroY 16)) HR1.out SH.out SE.out (yvs_one _) ?_))
      refine bodyPost_ret (v := .agg (yvs (sumB a b))) (results_cell_row Try.results40 _ _ (P0 + 1 + 1) 54 (yvs (sumB a b)) (0, 0) _ rfl (setRow_heap _ (P0 + 1 + 1) _ (yvs (sumB a b)) _ _ HR1.out) Try.underlying54 rfl SH.out) rfl ⟨rfl, ?_⟩
      rw [HP0.out]
      exact ybelow_row HB2.out (by omega) _

theorem yv_toNat (b : BitVec 8) : (yv b).toNat = b.toNat := by unfold yv; simp
theorem back_full : setF (fun i => (boxesL.getD i 0).toNat) (fun i => BitVec.ofNat 8 i) 256 (zeroY 256) = unboxesL := by decide +kernel
set_option maxRecDepth 100000 in
set_option maxHeartbeats 1600000 in
theorem rback_any (w : World) : Calls Try.prog 45 #[.agg (yvs boxesL)] w fun e w' => e = .returned (.agg (yvs unboxesL)) ∧ Below w.heap.size w w' := by
  have hz := zero_t256
  have hfull := back_full
  have hul := unboxes_length
  have zl : (zeroY 256).length = 256 := by simp [zeroY]
  have HTL := Lib.hid boxes_length
  have HIX := Lib.hid (yindex_t256 boxesL boxes_length)
  have ST := Lib.hid (size_t256 boxesL boxes_length)
  generalize boxesL = T at *
  generalize unboxesL = U at *
  generalize zeroY 256 = Z at *
  have ZL := Lib.hid zl
  clear zl
  have HF := Lib.hid hfull
  have HUL := Lib.hid hul
  clear hfull hul
  go_enter Try.func45, Try.ntmps45
  go_wp2_with (first
    | (with_reducible refine wpList_load_row (o := ⟨some 6, _, _, _, _, _⟩) rfl 37 _ rfl w.heap.size rfl 37 (yvs T) (0, 0) _ (ythree w _ _ _).1 Try.underlying37 rfl ST.out ?_))
  clear hz
  refine ygen3 fun W0 hW => ?_
  obtain ⟨_, h1, h2, hsz, hbel⟩ := hW
  have HR := Lib.hid (show ArrY W0 (w.heap.size + 1) 37 Z from h1)
  have HM := Lib.hid (show ArrY W0 (w.heap.size + 1 + 1) 37 Z from h2)
  have HB := Lib.hid hbel
  clear h1 h2 hsz hbel
  generalize hP0 : w.heap.size = P0 at *
  have HP0 := Lib.hid hP0
  clear hP0
  go_loopw [7] (fun v7 wr => ∃ i : Nat, i ≤ 256 ∧ v7 = .int .i64 (i : Nat) ∧ ArrY wr (P0 + 1 + 1) 37 (setF (fun i => (T.getD i 0).toNat) (fun i => BitVec.ofNat 8 i) i Z) ∧ Below (P0 + 1 + 1) W0 wr) (fun v _ => 256 - (intOf v).toNat)
  case atStart => exact ⟨0, by omega, rfl, HM.out, Below.refl _ _⟩
  case round =>
    obtain ⟨i, hi, rfl, hA, hb⟩ := hrel
    by_cases hlt : i < 256
    · have hix := HIX.out i hlt
      have HST := Lib.hid (show setF (fun i => (T.getD i 0).toNat) (fun i => BitVec.ofNat 8 i) (i + 1) Z = (setF (fun i => (T.getD i 0).toNat) (fun i => BitVec.ofNat 8 i) i Z).set (T.getD i 0).toNat (BitVec.ofNat 8 i) from rfl)
      have ht := (T.getD i 0).isLt
      have ci := hA.cell (k := (T.getD i 0).toNat) (by rw [setF_length, ZL.out]; exact ht)
      have fi := hA.free (T.getD i 0).toNat
      have hn := yv_toNat (T.getD i 0)
      have h0 := yv_pos (T.getD i 0)
      have h1 := yv_lt (T.getD i 0)
      generalize (setF (fun i => (T.getD i 0).toNat) (fun i => BitVec.ofNat 8 i) i Z).getD (T.getD i 0).toNat 0 = old at *
      generalize T.getD i 0 = x at *
      have HV := Lib.hid (yv_ofNat i hlt)
      have HA := Lib.hid hA
      have HB2 := Lib.hid hb
      have HLT := Lib.hid hlt
      have hiI : (i : Int) < 256 := by omega
      have hi0 : (0 : Int) ≤ (i : Int) := by omega
      clear hA hb hlt hi ht
      go_wp2_with fail
      go_roundw
      case rel => exact ⟨i + 1, by have := HLT.out; omega, by go_num, by rw [HST.out]; have h := HA.out.set x.toNat (BitVec.ofNat 8 i); rw [HV.out] at h; exact h, HB2.out.setCell (p := ⟨P0 + 1 + 1, x.toNat, none⟩) (Nat.le_refl _) _⟩
      case measure => simp [intOf]; omega
    · have hge : (256 : Int) ≤ (i : Int) := by omega
      have HI := Lib.hid (show i = 256 by omega)
      have HA := Lib.hid (show wr.heap[P0 + 1 + 1]? = some (.cells (yvs U) 37 (0, 0)) by rw [HI.out] at hA; rw [← HF.out]; exact hA)
      have HR1 := Lib.hid (show wr.heap[P0 + 1]? = some (.cells (yvs Z) 37 (0, 0)) from HR.out.below hb (by omega))
      have SH := Lib.hid (size_t256 U HUL.out)
      have SE := Lib.hid (show (yvs Z).size = (yvs U).size by rw [yvs_size, yvs_size, HUL.out, ZL.out])
      have HB2 := Lib.hid (HB.out.trans (hb.mono (by omega)))
      clear hlt hi hA hb HF HI HM
      go_wp2_with (first
        | (with_reducible refine wpList_load_row (o := ⟨some 16, _, _, _, _, _⟩) rfl 37 _ rfl (P0 + 1 + 1) rfl 37 (yvs U) (0, 0) _ HA.out Try.underlying37 rfl SH.out ?_)
        | (with_reducible refine wpList_store_row (o := ⟨none, .store _ (.tmp 2) _, _, _, _, _⟩) rfl 37 _ _ rfl (P0 + 1) (yvs U) rfl rfl 37 (yvs Z) HR1.out SH.out SE.out (yvs_one _) ?_))
      refine bodyPost_ret (v := .agg (yvs U)) (results_cell_row Try.results45 _ _ (P0 + 1) 37 (yvs U) (0, 0) _ rfl (setRow_heap _ (P0 + 1) _ (yvs U) _ _ HR1.out) Try.underlying37 rfl SH.out) rfl ⟨rfl, ?_⟩
      rw [HP0.out]
      exact ybelow_row HB2.out (by omega) _
end Go.Proofs.Ytajfooefofafmaa
