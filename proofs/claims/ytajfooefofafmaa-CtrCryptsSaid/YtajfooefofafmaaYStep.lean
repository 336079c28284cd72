/-
  The code: stepped: what a word is summed of, beside the one eight ahead.
-/
import Derived.Test.YtajfooefofafmaaYWord
namespace Go.Proofs.Ytajfooefofafmaa
open Go.RowKit

def wordA (a0 a1 a2 a3 : BitVec 8) : Array Value := #[.int .u8 (yv a0), .int .u8 (yv a1), .int .u8 (yv a2), .int .u8 (yv a3)]
theorem wordA_eq (a0 a1 a2 a3 : BitVec 8) : yvs [a0, a1, a2, a3] = #[.int .u8 (yv a0), .int .u8 (yv a1), .int .u8 (yv a2), .int .u8 (yv a3)] := rfl
theorem boxW_eq (a0 a1 a2 a3 : BitVec 8) : boxW [a0, a1, a2, a3] = [sbox a0, sbox a1, sbox a2, sbox a3] := rfl
theorem boxed4 (a0 a1 a2 a3 : BitVec 8) (w : World) : Calls Try.prog 54 #[.agg #[.int .u8 (yv a0), .int .u8 (yv a1), .int .u8 (yv a2), .int .u8 (yv a3)]] w
    fun e w' => e = .returned (.agg (yvs [sbox a0, sbox a1, sbox a2, sbox a3])) ∧ Below w.heap.size w w' := boxedWord_any [a0, a1, a2, a3] w rfl
theorem size_word4 (a0 a1 a2 a3 : BitVec 8) : (Try.prog.info? 85).map (·.size) = some (yvs [a0, a1, a2, a3]).size := size_word _ rfl
theorem pw_lift (i : Nat) (h : i < 8) : (2 : Int) ^ i % 256 = yv (pw i) := by
  match i, h with
  | 0, _ | 1, _ | 2, _ | 3, _ | 4, _ | 5, _ | 6, _ | 7, _ => rfl
set_option maxRecDepth 100000 in
set_option maxHeartbeats 1600000 in
theorem stepped_any (a0 a1 a2 a3 : BitVec 8) (i : Nat) (w : World) (h8 : 8 ≤ i) (h60 : i < 60) :
    Calls Try.prog 52 #[.agg (yvs [a0, a1, a2, a3]), .int .i64 i] w fun e w' => e = .returned (.agg (yvs (stepW [a0, a1, a2, a3] i))) ∧ Below w.heap.size w w' := by
  have p0 : (8 : Int) ≤ (i : Int) := by omega
  have p1 : (i : Int) < 60 := by omega
  have HI := Lib.hid (And.intro h8 h60)
  clear h8 h60
  rw [wordA_eq]
  obtain ⟨g0, g1, gz, gb⟩ := ytwo w (.cells (yvs [a0, a1, a2, a3]) 85) (.cells (yvs (zeroY 4)) 85)
  have HG := Lib.hid (And.intro g0 (And.intro g1 (And.intro gz gb)))
  clear g0 g1 gz gb
  go_enter Try.func52, Try.ntmps52
  by_cases m0 : i % 8 = 0
  · have n0 : (i : Int) % 8 = 0 := by omega
    have HS := Lib.hid (show stepW [a0, a1, a2, a3] i = [sbox a1 ^^^ pw (i / 8 - 1), sbox a2, sbox a3, sbox a0] by unfold stepW; rw [if_pos m0]; rfl)
    obtain ⟨d, hd, hd2⟩ : ∃ d : Nat, (i : Int) / 8 = (d : Int) + 1 ∧ i / 8 - 1 = d := ⟨i / 8 - 1, by have := HI.out; omega, rfl⟩
    have HD2 := Lib.hid hd2
    have hdI : (d : Int) < 7 := by omega
    have hd0 : (0 : Int) ≤ (d : Int) := by omega
    have hpw := pw_lift d (by omega)
    clear m0 hd2
    go_wp2_with fail
    refine (boxed4 a1 a2 a3 a0 _).mono ?_
    rintro e w1 ⟨rfl, hb1⟩
    replace hb1 : Below (w.heap.size + 2) ((w.alloc (.cells (yvs [a0, a1, a2, a3]) 85)).alloc (.cells (yvs (zeroY 4)) 85)) w1 := by rw [← HG.out.2.2.1]; exact hb1
    have HW1 := Lib.hid (show w1.heap[w.heap.size]? = some (.cells (yvs [a0, a1, a2, a3]) 85 (0, 0)) from (hb1.block _ (by omega)).trans HG.out.1)
    have HR1 := Lib.hid (show ArrY w1 (w.heap.size + 1) 85 (zeroY 4) from (hb1.block _ (by omega)).trans HG.out.2.1)
    have HB1 := Lib.hid (HG.out.2.2.2.trans (hb1.mono (by omega)))
    have SW := Lib.hid (size_word4 (sbox a1) (sbox a2) (sbox a3) (sbox a0))
    clear hb1
    go_wp2_with (first
      | (with_reducible refine wpList_store_row (o := ⟨none, .store _ (.tmp 2) _, _, _, _, _⟩) rfl 85 _ _ rfl w.heap.size (yvs [sbox a1, sbox a2, sbox a3, sbox a0]) rfl rfl 85 _ HW1.out SW.out rfl (yvs_one _) ?_))
    have hx2 := setRow_heap w1 w.heap.size _ (yvs [sbox a1, sbox a2, sbox a3, sbox a0]) _ _ HW1.out
    have hr2 : ArrY (w1.setRow w.heap.size (yvs [sbox a1, sbox a2, sbox a3, sbox a0])) (w.heap.size + 1) 85 (zeroY 4) := (setRow_other w1 w.heap.size _ _ (by omega)).trans HR1.out
    have hb2 := ybelow_row HB1.out (Nat.le_refl w.heap.size) (yvs [sbox a1, sbox a2, sbox a3, sbox a0])
    generalize w1.setRow w.heap.size (yvs [sbox a1, sbox a2, sbox a3, sbox a0]) = W2 at *
    have HX2 := Lib.hid (show ArrY W2 w.heap.size 85 [sbox a1, sbox a2, sbox a3, sbox a0] from hx2)
    have HR2 := Lib.hid hr2
    have HB2 := Lib.hid hb2
    have c0 : W2.cell? ⟨w.heap.size, 0, none⟩ = some (.int .u8 (yv (sbox a1))) := HX2.out.cell (k := 0) (show 0 < 4 by decide)
    have f0 := HX2.out.free 0
    have hxor := yv_xor (sbox a1) (pw d)
    clear hx2 hr2 hb2
    have hwr : IntKind.i64.wrap (IntKind.i64.wrap ((d : Int) + 1) - 1) = d := by rw [show IntKind.i64.wrap ((d : Int) + 1) = (d : Int) + 1 from IntWalk.i64_in _ (by omega), show (d : Int) + 1 - 1 = d by omega]; exact IntWalk.i64_in _ (by omega)
    simp only [Act.put]
    go_region
    have HX3 := Lib.hid (show ((W2.setCell ⟨w.heap.size, 0, none⟩ (.int .u8 (yv (sbox a1 ^^^ pw d)))).drew).heap[w.heap.size]? = some (.cells (yvs [sbox a1 ^^^ pw d, sbox a2, sbox a3, sbox a0]) 85 (0, 0)) from ArrY.set (w := W2) HX2.out 0 (sbox a1 ^^^ pw d))
    have HR3 := Lib.hid (show ((W2.setCell ⟨w.heap.size, 0, none⟩ (.int .u8 (yv (sbox a1 ^^^ pw d)))).drew).heap[w.heap.size + 1]? = some (.cells (yvs (zeroY 4)) 85 (0, 0)) from ArrY.other (w := W2) HR2.out _ _ (show w.heap.size + 1 ≠ w.heap.size by omega))
    have HB3 := Lib.hid (show Below w.heap.size w ((W2.setCell ⟨w.heap.size, 0, none⟩ (.int .u8 (yv (sbox a1 ^^^ pw d)))).drew) from (HB2.out.setCell (p := ⟨w.heap.size, 0, none⟩) (Nat.le_refl _) _).drew)
    have S3 := Lib.hid (size_word [sbox a1 ^^^ pw d, sbox a2, sbox a3, sbox a0] rfl)
    go_wp2_with (first
      | (with_reducible refine wpList_load_row (o := ⟨some 31, _, _, _, _, _⟩) rfl 85 _ rfl w.heap.size rfl 85 (yvs [sbox a1 ^^^ pw d, sbox a2, sbox a3, sbox a0]) (0, 0) _ HX3.out Try.underlying85 rfl S3.out ?_)
      | (with_reducible refine wpList_store_row (o := ⟨none, .store _ (.tmp 4) _, _, _, _, _⟩) rfl 85 _ _ rfl (w.heap.size + 1) (yvs [sbox a1 ^^^ pw d, sbox a2, sbox a3, sbox a0]) rfl rfl 85 _ HR3.out S3.out rfl (yvs_one _) ?_))
    refine bodyPost_ret (v := .agg (yvs [sbox a1 ^^^ pw d, sbox a2, sbox a3, sbox a0])) (results_cell_row Try.results52 _ _ (w.heap.size + 1) 85 (yvs [sbox a1 ^^^ pw d, sbox a2, sbox a3, sbox a0]) (0, 0) _ rfl (setRow_heap _ (w.heap.size + 1) _ (yvs [sbox a1 ^^^ pw d, sbox a2, sbox a3, sbox a0]) _ _ HR3.out) Try.underlying85 rfl S3.out) rfl ⟨by rw [HS.out, HD2.out], ?_⟩
    exact ybelow_row HB3.out (by omega) _
  · by_cases m4 : i % 8 = 4
    · have n0 : ¬ (i : Int) % 8 = 0 := by omega
      have n4 : (i : Int) % 8 = 4 := by omega
      have HS := Lib.hid (show stepW [a0, a1, a2, a3] i = [sbox a0, sbox a1, sbox a2, sbox a3] by unfold stepW; rw [if_neg m0, if_pos m4]; rfl)
      have SA := Lib.hid (size_word4 a0 a1 a2 a3)
      have HG0 := Lib.hid HG.out.1
      go_wp2_with (first
        | (with_reducible refine wpList_load_row (o := ⟨some 29, _, _, _, _, _⟩) rfl 85 _ rfl w.heap.size rfl 85 _ (0, 0) _ HG0.out Try.underlying85 rfl SA.out ?_))
      refine (boxed4 a0 a1 a2 a3 _).mono ?_
      rintro e w1 ⟨rfl, hb1⟩
      replace hb1 : Below (w.heap.size + 2) ((w.alloc (.cells (yvs [a0, a1, a2, a3]) 85)).alloc (.cells (yvs (zeroY 4)) 85)) w1 := by rw [← HG.out.2.2.1]; exact hb1
      have HW1 := Lib.hid (show w1.heap[w.heap.size]? = some (.cells (yvs [a0, a1, a2, a3]) 85 (0, 0)) from (hb1.block _ (by omega)).trans HG.out.1)
      have HR1 := Lib.hid (show ArrY w1 (w.heap.size + 1) 85 (zeroY 4) from (hb1.block _ (by omega)).trans HG.out.2.1)
      have HB1 := Lib.hid (HG.out.2.2.2.trans (hb1.mono (by omega)))
      have S3 := Lib.hid (size_word4 (sbox a0) (sbox a1) (sbox a2) (sbox a3))
      have HX3 := Lib.hid (setRow_heap w1 w.heap.size _ (yvs [sbox a0, sbox a1, sbox a2, sbox a3]) _ _ HW1.out)
      have HR3 := Lib.hid (show (w1.setRow w.heap.size (yvs [sbox a0, sbox a1, sbox a2, sbox a3])).heap[w.heap.size + 1]? = some (.cells (yvs (zeroY 4)) 85 (0, 0)) from (setRow_other w1 w.heap.size _ _ (by omega)).trans HR1.out)
      have HB3 := Lib.hid (ybelow_row HB1.out (Nat.le_refl w.heap.size) (yvs [sbox a0, sbox a1, sbox a2, sbox a3]))
      clear hb1
      go_wp2_with (first
        | (with_reducible refine wpList_store_row (o := ⟨none, .store _ (.tmp 2) _, _, _, _, _⟩) rfl 85 _ _ rfl w.heap.size (yvs [sbox a0, sbox a1, sbox a2, sbox a3]) rfl rfl 85 _ HW1.out S3.out rfl (yvs_one _) ?_)
        | (with_reducible refine wpList_load_row (o := ⟨some 31, _, _, _, _, _⟩) rfl 85 _ rfl w.heap.size rfl 85 (yvs [sbox a0, sbox a1, sbox a2, sbox a3]) (0, 0) _ HX3.out Try.underlying85 rfl S3.out ?_)
        | (with_reducible refine wpList_store_row (o := ⟨none, .store _ (.tmp 4) _, _, _, _, _⟩) rfl 85 _ _ rfl (w.heap.size + 1) (yvs [sbox a0, sbox a1, sbox a2, sbox a3]) rfl rfl 85 _ HR3.out S3.out rfl (yvs_one _) ?_))
      refine bodyPost_ret (v := .agg (yvs [sbox a0, sbox a1, sbox a2, sbox a3])) (results_cell_row Try.results52 _ _ (w.heap.size + 1) 85 (yvs [sbox a0, sbox a1, sbox a2, sbox a3]) (0, 0) _ rfl (setRow_heap _ (w.heap.size + 1) _ (yvs [sbox a0, sbox a1, sbox a2, sbox a3]) _ _ HR3.out) Try.underlying85 rfl S3.out) rfl ⟨by rw [HS.out], ?_⟩
      exact ybelow_row HB3.out (by omega) _
    · have n0 : ¬ (i : Int) % 8 = 0 := by omega
      have n4 : ¬ (i : Int) % 8 = 4 := by omega
      have HS := Lib.hid (show stepW [a0, a1, a2, a3] i = [a0, a1, a2, a3] by unfold stepW; rw [if_neg m0, if_neg m4]; rfl)
      have S3 := Lib.hid (size_word4 a0 a1 a2 a3)
      have h2 := ytwo w (.cells (yvs [a0, a1, a2, a3]) 85) (.cells (yvs [a0, a1, a2, a3]) 85)
      have H2 := Lib.hid h2
      clear h2
      go_wp2_with fail
      refine bodyPost_ret (v := .agg (yvs [a0, a1, a2, a3])) (results_cell_row Try.results52 _ _ (w.heap.size + 1) 85 (yvs [a0, a1, a2, a3]) (0, 0) _ rfl H2.out.2.1 Try.underlying85 rfl S3.out) rfl ⟨by rw [HS.out], H2.out.2.2.2⟩
end Go.Proofs.Ytajfooefofafmaa
