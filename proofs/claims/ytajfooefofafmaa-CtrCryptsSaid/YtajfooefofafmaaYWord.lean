/-
  The code: unmixed; words of a key: boxedWord, stepped.
-/
import Derived.Test.YtajfooefofafmaaYMix
namespace Go.Proofs.Ytajfooefofafmaa
open Go.RowKit

set_option maxRecDepth 100000 in
set_option maxHeartbeats 1600000 in
theorem unmixed_any (a : List (BitVec 8)) (w : World) (ha : a.length = 16) :
    Calls Try.prog 44 #[.agg (yvs a)] w fun e w' => e = .returned (.agg (yvs (unmixB a))) ∧ Below w.heap.size w w' := by
  have HAL := Lib.hid ha
  have SB := Lib.hid (size_block a ha)
  clear ha
  go_enter Try.func44, Try.ntmps44
  go_wp2_with (first
    | (with_reducible refine wpList_load_row (o := ⟨some 3, _, _, _, _, _⟩) rfl 55 _ rfl w.heap.size rfl 55 (yvs a) (0, 0) _ (ytwo w _ _).1 Try.underlying55 rfl SB.out ?_))
  obtain ⟨_, h1, hsz, hbel⟩ := ytwo w (.cells (yvs a) 55) (.cells (yvs (zeroY 16)) 55)
  refine (mixed_any a _ HAL.out).mono ?_
  rintro e w1 ⟨rfl, hb1⟩
  replace hb1 : Below (w.heap.size + 2) ((w.alloc (.cells (yvs a) 55)).alloc (.cells (yvs (zeroY 16)) 55)) w1 := by rw [← hsz]; exact hb1
  have HR1 := Lib.hid (show ArrY w1 (w.heap.size + 1) 55 (zeroY 16) from (hb1.block _ (by omega)).trans h1)
  have HB1 := Lib.hid (hbel.trans (hb1.mono (by omega)))
  have HZ1 := Lib.hid (show w.heap.size + 2 ≤ w1.heap.size by rw [← hsz]; exact hb1.size)
  clear h1 hsz hbel hb1
  go_wp2_with fail
  refine (mixed_any (mixB a) _ (mixB_length _)).mono ?_
  rintro e w2 ⟨rfl, hb2⟩
  have HZ2 := Lib.hid (show w.heap.size + 2 ≤ w2.heap.size from Nat.le_trans HZ1.out hb2.size)
  have HR2 := Lib.hid (HR1.out.below hb2 (by have := HZ1.out; omega))
  have HB2 := Lib.hid (HB1.out.trans (hb2.mono (by have := HZ1.out; omega)))
  clear hb2
  go_wp2_with fail
  refine (mixed_any (mixB (mixB a)) _ (mixB_length _)).mono ?_
  rintro e w3 ⟨rfl, hb3⟩
  have HR3 := Lib.hid (show w3.heap[w.heap.size + 1]? = some (.cells (yvs (zeroY 16)) 55 (0, 0)) from HR2.out.below hb3 (by have := HZ2.out; omega))
  have HB3 := Lib.hid (HB2.out.trans (hb3.mono (by have := HZ2.out; omega)))
  have SH := Lib.hid (size_block (unmixB a) (unmixB_length _))
  have SE := Lib.hid (show (yvs (zeroY 16)).size = (yvs (unmixB a)).size by rw [yvs_size, yvs_size, unmixB_length _]; rfl)
  clear hb3
  go_wp2_with (first
    | (with_reducible refine wpList_store_row (o := ⟨none, .store _ (.tmp 2) _, _, _, _, _⟩) rfl 55 _ _ rfl (w.heap.size + 1) (yvs (unmixB a)) rfl rfl 55 (yvs (zeroY 16)) HR3.out SH.out SE.out (yvs_one _) ?_))
  refine bodyPost_ret (v := .agg (yvs (unmixB a))) (results_cell_row Try.results44 _ _ (w.heap.size + 1) 55 (yvs (unmixB a)) (0, 0) _ rfl (setRow_heap _ (w.heap.size + 1) _ (yvs (unmixB a)) _ _ HR3.out) Try.underlying55 rfl SH.out) rfl ⟨rfl, ?_⟩
  exact ybelow_row HB3.out (by omega) _

def boxW (a : List (BitVec 8)) : List (BitVec 8) := [sbox (a.getD 0 0), sbox (a.getD 1 0), sbox (a.getD 2 0), sbox (a.getD 3 0)]
theorem four4 {α : Type} (x : List α) (h : x.length = 4) : ∃ a0 a1 a2 a3, x = [a0, a1, a2, a3] := by
  match x, h with
  | [a0, a1, a2, a3], _ => exact ⟨_, _, _, _, rfl⟩
theorem setF_boxW (a : List (BitVec 8)) (ha : a.length = 4) : setF id (fun j => sbox (a.getD j 0)) 4 a = boxW a := by
  obtain ⟨a0, a1, a2, a3, rfl⟩ := four4 a ha
  rfl
set_option maxRecDepth 100000 in
set_option maxHeartbeats 1600000 in
theorem boxedWord_any (a : List (BitVec 8)) (w : World) (ha : a.length = 4) :
    Calls Try.prog 54 #[.agg (yvs a)] w fun e w' => e = .returned (.agg (yvs (boxW a))) ∧ Below w.heap.size w w' := by
  have HAL := Lib.hid ha
  have HIB := Lib.hid (yindex_word a ha)
  have SB := Lib.hid (size_word a ha)
  clear ha
  go_enter Try.func54, Try.ntmps54
  go_wp2_with (first
    | (with_reducible refine wpList_load_row (o := ⟨some 5, _, _, _, _, _⟩) rfl 85 _ rfl w.heap.size rfl 85 (yvs a) (0, 0) _ (ytwo w _ _).1 Try.underlying85 rfl SB.out ?_))
  refine ygen2 fun W0 hW => ?_
  obtain ⟨h0, h2, hsz, hbel⟩ := hW
  have HX0 := Lib.hid (show ArrY W0 w.heap.size 85 a from h0)
  have HR := Lib.hid (show ArrY W0 (w.heap.size + 1) 85 (zeroY 4) from h2)
  have HB := Lib.hid hbel
  have HZ := Lib.hid (show w.heap.size < W0.heap.size by omega)
  clear h0 h2 hsz hbel
  generalize hP0 : w.heap.size = P0 at *
  have HP0 := Lib.hid hP0
  clear hP0
  go_loopw [6] (fun v6 wr => ∃ i : Nat, i ≤ 4 ∧ v6 = .int .i64 (i : Nat) ∧ ArrY wr P0 85 (setF id (fun j => sbox (a.getD j 0)) i a) ∧ ArrY wr (P0 + 1) 85 (zeroY 4) ∧ Below P0 w wr) (fun v _ => 4 - (intOf v).toNat)
  case atStart => exact ⟨0, by omega, rfl, HX0.out, HR.out, HB.out⟩
  case round =>
    obtain ⟨i, hi, rfl, hA, hR, hb⟩ := hrel
    by_cases hlt : i < 4
    · have hix := HIB.out i hlt
      have ci := hA.cell (k := i) (by rw [setF_length, HAL.out]; exact hlt)
      rw [setF_id] at ci
      have fi := hA.free i
      have HC := Lib.hid (fun w => box_any (a.getD i 0) w)
      have HST := Lib.hid (show setF id (fun j => sbox (a.getD j 0)) (i + 1) a = (setF id (fun j => sbox (a.getD j 0)) i a).set i (sbox (a.getD i 0)) from rfl)
      have HA := Lib.hid hA
      have HR2 := Lib.hid hR
      have HB2 := Lib.hid hb
      have HLT := Lib.hid hlt
      have hiI : (i : Int) < 4 := by omega
      have hi0 : (0 : Int) ≤ (i : Int) := by omega
      generalize a.getD i 0 = x at *
      clear hA hR hb hlt hi
      go_wp2_with fail
      refine (HC.out _).mono ?_
      rintro e w1 ⟨rfl, rfl⟩
      go_wp2_with fail
      go_roundw
      case rel => exact ⟨i + 1, by have := HLT.out; omega, by go_num, by rw [HST.out]; exact HA.out.set i _, HR2.out.other _ _ (show P0 + 1 ≠ P0 by omega), HB2.out.setCell (p := ⟨P0, i, none⟩) (Nat.le_refl _) _⟩
      case measure => simp [intOf]; omega
    · have hge : (4 : Int) ≤ (i : Int) := by omega
      obtain rfl : i = 4 := by omega
      rw [setF_boxW a HAL.out] at hA
      have HA := Lib.hid (show wr.heap[P0]? = some (.cells (yvs (boxW a)) 85 (0, 0)) from hA)
      have HR1 := Lib.hid (show wr.heap[P0 + 1]? = some (.cells (yvs (zeroY 4)) 85 (0, 0)) from hR)
      have SH := Lib.hid (size_word (boxW a) rfl)
      have SE := Lib.hid (show (yvs (zeroY 4)).size = (yvs (boxW a)).size from rfl)
      have HB2 := Lib.hid hb
      clear hlt hi hA hb hR
      go_wp2_with (first
        | (with_reducible refine wpList_load_row (o := ⟨some 15, _, _, _, _, _⟩) rfl 85 _ rfl (P0) rfl 85 (yvs (boxW a)) (0, 0) _ HA.out Try.underlying85 rfl SH.out ?_)
        | (with_reducible refine wpList_store_row (o := ⟨none, .store _ (.tmp 2) _, _, _, _, _⟩) rfl 85 _ _ rfl (P0 + 1) (yvs (boxW a)) rfl rfl 85 (yvs (zeroY 4)) HR1.out SH.out SE.out (yvs_one _) ?_))
      refine bodyPost_ret (v := .agg (yvs (boxW a))) (results_cell_row Try.results54 _ _ (P0 + 1) 85 (yvs (boxW a)) (0, 0) _ rfl (setRow_heap _ (P0 + 1) _ (yvs (boxW a)) _ _ HR1.out) Try.underlying85 rfl SH.out) rfl ⟨rfl, ?_⟩
      rw [HP0.out]
      exact ybelow_row HB2.out (by omega) _
end Go.Proofs.Ytajfooefofafmaa
