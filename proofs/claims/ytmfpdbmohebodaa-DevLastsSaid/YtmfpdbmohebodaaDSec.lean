/-
  Stage 6: the laws' own sector.
-/
import Derived.Test.YtmfpdbmohebodaaCUse
namespace Go.Proofs.Ytmfpdbmohebodaa
open Go.RowKit

/-- A sector of one byte, but its first one. -/
def secB (x y : BitVec 8) : List (BitVec 8) := (List.replicate 512 y).set 0 x
theorem secB_length (x y : BitVec 8) : (secB x y).length = 512 := by unfold secB; rw [List.length_set, List.length_replicate]
theorem fill_full (y : BitVec 8) (Z : List (BitVec 8)) (n : Nat) (h : Z.length = n) : setF id (fun _ => y) n Z = List.replicate n y := by
  apply List.ext_getElem?
  intro i
  by_cases hi : i < n
  · rw [setF_id_at _ _ _ _ (by omega), if_pos hi]
    simp [hi]
  · rw [List.getElem?_eq_none (by rw [setF_length]; omega), List.getElem?_eq_none (by simp; omega)]
set_option maxRecDepth 100000 in
set_option maxHeartbeats 1600000 in
theorem sector_any (x y : BitVec 8) (w : World) :
    Calls Try.prog 32 #[.int .u8 (yv x), .int .u8 (yv y)] w fun e w' => e = .returned (.slice (some ⟨w.heap.size, 0, none⟩) 512 512) ∧ ArrY w' w.heap.size 5 (secB x y) ∧ Below w.heap.size w w' := by
  have hmk : ∀ w : World, (Instr.makeSlice 36 (.int .i64 512) (.int .i64 512)).run Try.prog w = .ok (.slice (some ⟨w.heap.size, 0, none⟩) 512 512) (w.alloc (.cells (yvs (zeroY 512)) 5)) := make_bytes 512 (by omega)
  have zl : (zeroY 512).length = 512 := by simp [zeroY]
  have hsec : secB x y = (List.replicate 512 y).set 0 x := rfl
  have hsl := secB_length x y
  generalize secB x y = SB at *
  generalize zeroY 512 = Z at *
  have hf := fill_full y Z 512 zl
  have hrl : (List.replicate 512 y).length = 512 := List.length_replicate
  generalize List.replicate 512 y = RY at *
  have HZ := Lib.hid zl
  have HS := Lib.hid hsec
  have HF := Lib.hid hf
  have HRL := Lib.hid hrl
  have hA := heap_alloc_new w (.cells (yvs Z) 5)
  have hb := (Below.refl w.heap.size w).alloc (Nat.le_refl _) (.cells (yvs Z) 5)
  have HA := Lib.hid (show ArrY (w.alloc (.cells (yvs Z) 5)) w.heap.size 5 Z from hA)
  have HB := Lib.hid hb
  clear zl hsec hsl hf hrl hA hb
  go_enter Try.func32, Try.ntmps32
  go_wp2_with fail
  clear hmk
  generalize hP : w.heap.size = P at *
  have HP := Lib.hid hP
  clear hP
  go_loopw [10] (fun v10 wr => ∃ i : Nat, i ≤ 512 ∧ v10 = .int .i64 (i : Nat) ∧ ArrY wr P 5 (setF id (fun _ => y) i Z) ∧ Below P w wr) (fun v _ => 512 - (intOf v).toNat)
  case atStart => exact ⟨0, by omega, rfl, HA.out, HB.out⟩
  case round =>
    obtain ⟨i, hi, rfl, hA, hb⟩ := hrel
    by_cases hlt : i < 512
    · have ci := hA.cell (k := i) (by rw [setF_length, HZ.out]; exact hlt)
      have fi := hA.free i
      have HST := Lib.hid (show setF id (fun _ => y) (i + 1) Z = (setF id (fun _ => y) i Z).set i y from rfl)
      generalize hM2 : setF id (fun _ => y) (i + 1) Z = M2 at *
      have HM2 := Lib.hid hM2
      clear hM2
      generalize setF id (fun _ => y) i Z = M at *
      generalize M.getD i 0 = old at *
      have HA2 := Lib.hid hA
      have HB2 := Lib.hid hb
      have HLT := Lib.hid hlt
      have iI : (i : Int) < 512 := by omega
      have i0 : (0 : Int) ≤ (i : Int) := by omega
      clear hA hb hi hlt
      go_wp2_with fail
      go_roundw
      case rel => exact ⟨i + 1, by have := HLT.out; omega, by go_num, by rw [HM2.out, HST.out]; exact HA2.out.set i _, HB2.out.setCell (p := ⟨P, i, none⟩) (Nat.le_refl _) _⟩
      case measure => simp [intOf]; omega
    · have hbv : decide ((i : Int) < 512) = false := by simp; omega
      have hi2 : i = 512 := by omega
      rw [hi2, HF.out] at hA
      have c0 := hA.cell (k := 0) (by rw [HRL.out]; omega)
      have f0 := hA.free 0
      have HA2 := Lib.hid hA
      have HB2 := Lib.hid hb
      generalize RY.getD 0 0 = old at *
      clear hA hb hi hlt hi2
      go_wp2_with fail
      go_ret
      exact ⟨by rw [HP.out]; rfl, by rw [HP.out, HS.out]; exact HA2.out.set 0 x, by rw [HP.out]; exact HB2.out.setCell (p := ⟨P, 0, none⟩) (Nat.le_refl _) _⟩
end Go.Proofs.Ytmfpdbmohebodaa
