/-
  The document's example of layer 5: alive returns true and leaves what was there as it was.
-/
import Derived.Test.YtajfooefofafmaaCCry
namespace Go.Proofs.Ytajfooefofafmaa
open Go.RowKit

theorem zero_stream : strL (keysL (zeroY 32)) (zeroY 12) 0 16 = sealB (keysL (zeroY 32)) (zeroY 16) := by
  have h := strL_block (keysL (zeroY 32)) (zeroY 12) (keysL_length _ (by simp [zeroY])) 0
  rw [show zeroY 12 ++ beY 4 0 = zeroY 16 by decide] at h
  exact h
theorem zero_first : (sealB (keysL (zeroY 32)) (zeroY 16)).getD 0 0 = 0xdc := by decide +kernel
theorem yv_dc : yv (0xdc : BitVec 8) = 220 := by decide
set_option maxRecDepth 100000 in
set_option maxHeartbeats 1600000 in
theorem alive5_any (w : World) : Calls Try.prog 11 #[] w fun e w' => e = .returned (.bool true) ∧ Below w.heap.size w w' := by
  have h1 := fun w => stream_ok (zeroY 32) (zeroY 12) 0 16 w (by simp [zeroY]) (by simp [zeroY]) (by omega) (by omega)
  have h2 := fun w => seal_any (zeroY 32) (zeroY 16) w (by simp [zeroY]) (by simp [zeroY])
  have hfl := sealB_length (keysL (zeroY 32)) (zeroY 16) (keysL_length _ (by simp [zeroY]))
  have hf0 := zero_first
  rw [zero_stream] at h1
  generalize sealB (keysL (zeroY 32)) (zeroY 16) = F at *
  have HC1 := Lib.hid (show ∀ w : World, Calls Try.prog 13 #[.agg (yvs (zeroY 32)), .agg (yvs (zeroY 12)), .int .i64 0, .int .i64 16] w fun e w' => e = .returned (.tuple #[.slice (some ⟨w.heap.size + 1 + 1, 0, none⟩) 16 16, .int .i64 0]) ∧ ArrY w' (w.heap.size + 1 + 1) 5 F ∧ Below w.heap.size w w' from h1)
  have HC2 := Lib.hid h2
  have HFL := Lib.hid hfl
  have HF0 := Lib.hid (show (F.getD 0 0) = 0xdc from hf0)
  have SH := Lib.hid (size_block F hfl)
  have SE := Lib.hid (show (yvs (zeroY 16)).size = (yvs F).size by rw [yvs_size, yvs_size, hfl]; simp [zeroY])
  clear h1 h2 hfl hf0
  go_enter Try.func11, Try.ntmps11
  go_wp2_with fail
  refine (HC1.out w).mono ?_
  rintro e w1 ⟨rfl, hA1, hb1⟩
  generalize hP : w.heap.size + 1 + 1 = P at *
  have HA1 := Lib.hid hA1
  have HB1 := Lib.hid hb1
  clear hA1 hb1 hP
  go_wp2_with fail
  refine (HC2.out _).mono ?_
  rintro e w2 ⟨rfl, hb2⟩
  have H2 := Lib.hid (show ArrY w2 P 5 F ∧ Below w.heap.size w w2 from ⟨HA1.out.below hb2 (zlt HA1.out), HB1.out.trans (hb2.mono HB1.out.size)⟩)
  clear hb2 HA1 HB1
  go_upto_region 3 with (first
    | (with_reducible refine wpList_store_row (o := ⟨none, .store _ (.tmp 3) _, _, _, _, _⟩) rfl 55 _ _ rfl w2.heap.size (yvs F) rfl rfl 55 (yvs (zeroY 16)) (heap_alloc_new w2 _) SH.out SE.out (yvs_one _) ?_))
  generalize hW3 : World.setRow _ w2.heap.size _ = W3
  have h3 : ArrY W3 P 5 F ∧ ArrY W3 w2.heap.size 55 F ∧ Below w.heap.size w W3 := by
    obtain ⟨e1, e2, e3⟩ := ygen_row (w := w2) (old := yvs (zeroY 16)) (cs := yvs F) (T := 55)
    rw [← hW3]
    exact ⟨H2.out.1.below e3 (zlt H2.out.1), e1, H2.out.2.trans (e3.mono H2.out.2.size)⟩
  have HB3 := Lib.hid h3.2.2
  have HS := Lib.hid (same_eq W3 _ _ (F.map yv) (BS.of_arr0 (n := 16) (cap := 16) h3.1 HFL.out) (BS.of_arr0 (n := 16) (cap := 16) h3.2.1 HFL.out))
  have c0 := h3.1.cell (k := 0) (by rw [HFL.out]; omega)
  rw [HF0.out, yv_dc] at c0
  clear hW3 h3 H2
  generalize w2.heap.size = X at *
  have hsl := slice_b16 X
  go_wp2_with fail
  refine HS.out.mono ?_
  rintro e w4 ⟨rfl, rfl⟩
  go_wp2_with fail
  go_ret
  exact ⟨rfl, HB3.out⟩
end Go.Proofs.Ytajfooefofafmaa
