/-
  Blocks sealed: the laws' own block: bytes over and over.
-/
import Derived.Test.YtfgdddejpdjllaaDoorEe
namespace Go.Proofs.YtfgdddejpdjllaaDoor
set_option maxRecDepth 4000
set_option linter.unusedVariables false
open Go.ChangeShapes Go.WideShapes Go.ChangeAt Go.RowKit

def blockF (b : List (BitVec 8)) (i : Nat) : BitVec 8 := if 0 < b.length then b.getD (i % b.length) 0 else 0
def blockL (b : List (BitVec 8)) : List (BitVec 8) := (List.range 512).map (blockF b)
theorem blockL_length (b : List (BitVec 8)) : (blockL b).length = 512 := by simp [blockL]
theorem blockL_set (b : List (BitVec 8)) : setF id (blockF b) 512 (zeroY 512) = blockL b := by
  apply List.ext_getElem?
  intro i
  by_cases hi : i < 512
  · rw [setF_id_at _ _ _ _ (by simpa [zeroY] using hi), if_pos hi]
    simp [blockL, hi]
  · rw [List.getElem?_eq_none (by rw [setF_length]; simp [zeroY]; omega), List.getElem?_eq_none (by rw [blockL_length]; omega)]
theorem blockL_nil : blockL [] = zeroY 512 := by decide +kernel
set_option maxRecDepth 100000 in
set_option maxHeartbeats 1600000 in
theorem block_nil (a : Option Addr) (cap : Nat) (w : World) :
    Calls Tryd.prog 22 #[.slice a 0 cap] w fun e w' => e = .returned (.slice (some ⟨w.heap.size, 0, none⟩) 512 512) ∧ ArrY w' w.heap.size 5 (blockL []) ∧ Below w.heap.size w w' := by
  rw [blockL_nil]
  have hmk := make_bytes 512 (by omega)
  rw [show ((512 : Nat) : Int) = 512 from rfl] at hmk
  have hbA := (Below.refl w.heap.size w).alloc (Nat.le_refl _) (.cells (yvs (zeroY 512)) 5)
  have hAA := heap_alloc_new w (.cells (yvs (zeroY 512)) 5)
  have HA := Lib.hid (show ArrY _ w.heap.size 5 (zeroY 512) from hAA)
  have HB := Lib.hid hbA
  clear hAA hbA
  generalize zeroY 512 = ZY at *
  go_enter Tryd.func22, Tryd.ntmps22
  go_upto_region 2 with fail
  clear hmk
  generalize World.alloc w _ = w1 at *
  go_wp2_with fail
  go_loopw [4, 8] (fun _ v8 wr => ∃ i : Nat, i ≤ 512 ∧ v8 = .int .i64 (i : Nat) ∧ ArrY wr w.heap.size 5 ZY ∧ Below w.heap.size w wr) (fun _ v _ => 512 - (intOf v).toNat)
  case atStart => exact ⟨0, by omega, rfl, HA.out, HB.out⟩
  case round =>
    obtain ⟨i, hi, rfl, hA, hb⟩ := hrel
    have HAA := Lib.hid hA
    have HBB := Lib.hid hb
    by_cases hlt : i < 512
    · have iI : (i : Int) < 512 := by omega
      have HLT := Lib.hid hlt
      clear hA hb hi hlt
      go_wp2_with fail
      go_roundw
      case rel => exact ⟨i + 1, by have := HLT.out; omega, by go_num, HAA.out, HBB.out⟩
      case measure => simp [intOf]; have := HLT.out; omega
    · have iI : decide ((i : Int) < 512) = false := by simp; omega
      clear hA hb hi hlt
      go_wp2_with fail
      go_ret
      exact ⟨rfl, HAA.out, HBB.out⟩
set_option maxRecDepth 100000 in
set_option maxHeartbeats 1600000 in
theorem block_some (b : List (BitVec 8)) (a : Option Addr) (n cap : Nat) (w : World) (hB : BS w (.slice a n cap) (b.map yv)) (hl : b.length = n) (h0 : 0 < n) (hn : n ≤ 140737488351232) :
    Calls Tryd.prog 22 #[.slice a n cap] w fun e w' => e = .returned (.slice (some ⟨w.heap.size, 0, none⟩) 512 512) ∧ ArrY w' w.heap.size 5 (blockL b) ∧ Below w.heap.size w w' := by
  have hmk := make_bytes 512 (by omega)
  rw [show ((512 : Nat) : Int) = 512 from rfl] at hmk
  have hbA := (Below.refl w.heap.size w).alloc (Nat.le_refl _) (.cells (yvs (zeroY 512)) 5)
  have hAA := heap_alloc_new w (.cells (yvs (zeroY 512)) 5)
  have HSET := Lib.hid (blockL_set b)
  have HBB := Lib.hid hB
  have HL := Lib.hid hl
  have H0 := Lib.hid h0
  have nI : (0 : Int) < (n : Int) := by omega
  have nM : (n : Int) ≤ 140737488351232 := by omega
  have HA := Lib.hid (show ArrY _ w.heap.size 5 (zeroY 512) from hAA)
  have HB := Lib.hid hbA
  have HZL := Lib.hid (show (zeroY 512).length = 512 by simp [zeroY])
  clear hAA hbA hl h0 hn hB
  generalize zeroY 512 = ZY at *
  go_enter Tryd.func22, Tryd.ntmps22
  go_upto_region 2 with fail
  clear hmk
  generalize World.alloc w _ = w1 at *
  go_wp2_with fail
  go_loopw [4, 8] (fun _ v8 wr => ∃ i : Nat, i ≤ 512 ∧ v8 = .int .i64 (i : Nat) ∧ ArrY wr w.heap.size 5 (setF id (blockF b) i ZY) ∧ Below w.heap.size w wr) (fun _ v _ => 512 - (intOf v).toNat)
  case atStart => exact ⟨0, by omega, rfl, HA.out, HB.out⟩
  case round =>
    obtain ⟨i, hi, rfl, hA, hb⟩ := hrel
    by_cases hlt : i < 512
    · obtain ⟨j, hj, hjn⟩ : ∃ j : Nat, (i : Int) % (n : Int) = (j : Int) ∧ i % n = j := ⟨i % n, by simp, rfl⟩
      have hjl : j < n := by rw [← hjn]; exact Nat.mod_lt _ H0.out
      have hf : blockF b i = b.getD j 0 := by unfold blockF; rw [HL.out, if_pos H0.out, hjn]
      obtain ⟨bb, ob, rfl, hblt, hcb⟩ := HBB.out.cellY HL.out hjl
      have hcx : wr.cell? ⟨bb, ob + j, none⟩ = some (.int .u8 (yv (b.getD j 0))) := by rw [hb.cell (p := ⟨bb, ob + j, none⟩) hblt]; exact hcb
      have ci := hA.cell (k := i) (by rw [setF_length, HZL.out]; exact hlt)
      have fi := hA.free i
      have HST := Lib.hid (show setF id (blockF b) (i + 1) ZY = (setF id (blockF b) i ZY).set i (b.getD j 0) by rw [← hf]; rfl)
      generalize hM2 : setF id (blockF b) (i + 1) ZY = M2 at *
      have HM2 := Lib.hid hM2
      clear hM2 hf hjn hcb hblt
      generalize setF id (blockF b) i ZY = M at *
      generalize M.getD i 0 = x at *
      generalize b.getD j 0 = y at *
      have HAA := Lib.hid hA
      have HB2 := Lib.hid hb
      have HLT := Lib.hid hlt
      have iI : (i : Int) < 512 := by omega
      have i0 : (0 : Int) ≤ (i : Int) := by omega
      have jI : (j : Int) < (n : Int) := by omega
      have j0 : (0 : Int) ≤ (j : Int) := by omega
      have n1 : decide (0 < n) = true := decide_eq_true H0.out
      have NI := Lib.hid nI
      clear hA hb hi hlt hjl nI
      go_upto_region 6 with fail
      have nI := NI.out
      go_wp2_with fail
      go_roundw
      case rel => exact ⟨i + 1, by have := HLT.out; omega, by go_num, by rw [HM2.out, HST.out]; exact HAA.out.set i _, HB2.out.setCell (p := ⟨w.heap.size, i, none⟩) (Nat.le_refl _) _⟩
      case measure => simp [intOf]; have := HLT.out; omega
    · have iI : decide ((i : Int) < 512) = false := by simp; omega
      rw [show setF id (blockF b) i ZY = blockL b by rw [show i = 512 by omega]; exact HSET.out] at hA
      have HAA := Lib.hid hA
      have HB2 := Lib.hid hb
      clear hA hb hi hlt
      go_wp2_with fail
      go_ret
      exact ⟨rfl, HAA.out, HB2.out⟩
theorem block_any (b : List (BitVec 8)) (a : Option Addr) (n cap : Nat) (w : World) (hB : Bts w a n cap b) (hn : n ≤ 140737488351232) :
    Calls Tryd.prog 22 #[.slice a n cap] w fun e w' => e = .returned (.slice (some ⟨w.heap.size, 0, none⟩) 512 512) ∧ ArrY w' w.heap.size 5 (blockL b) ∧ Below w.heap.size w w' := by
  by_cases h : n = 0
  · obtain ⟨h1, h2, _⟩ := hB
    subst h
    obtain rfl := List.eq_nil_of_length_eq_zero h2
    exact block_nil a cap w
  · exact block_some b a n cap w hB.1 hB.2.1 (by omega) hn
end Go.Proofs.YtfgdddejpdjllaaDoor
