/-
  The first state; a state as bytes.
-/
import Derived.Test.YtpmeiadnikenmaaDoorMixed
namespace Go.Proofs.YtpmeiadnikenmaaDoor
open Go.RowKit

def H0 : List (BitVec 32) := [0x6a09e667, 0xbb67ae85, 0x3c6ef372, 0xa54ff53a, 0x510e527f, 0x9b05688c, 0x1f83d9ab, 0x5be0cd19]
theorem H0_length : H0.length = 8 := by decide
set_option maxHeartbeats 400000 in
theorem start_any (w : World) : Calls Tryd.prog 33 #[] w fun e w' => e = .returned (.agg (wvs H0)) ∧ Below w.heap.size w w' := by
  go_enter Tryd.func33, Tryd.ntmps33
  go_wp2_with (first
    | (with_reducible refine wpList_store_row (o := ⟨none, .store _ (.tmp 0) _, _, _, _, _⟩) rfl 63 _ _ rfl w.heap.size (wvs H0) rfl ?c2 63 _ (heap_alloc_new w _) (size_n8 H0 H0_length) ?c1 (wvs_one H0) ?_))
  case c1 => rfl
  case c2 => rfl
  refine bodyPost_ret (v := .agg (wvs H0)) (results_cell_row Tryd.results33 _ _ w.heap.size 63 (wvs H0) (0, 0) _ rfl (setRow_heap _ w.heap.size _ (wvs H0) _ _ (heap_alloc_new w _)) Tryd.underlying63 rfl (size_n8 H0 H0_length)) rfl ⟨rfl, ?_⟩
  exact ((Below.refl w.heap.size w).alloc (Nat.le_refl _) _).trans ⟨rfl, rfl, rfl, by simp, fun k hk => setRow_other _ _ k _ (by omega)⟩

/-- A state as bytes. -/
def hashOf (x : List (BitVec 32)) : List Int := (List.range 32).map fun i => wv (x.getD (i / 4) 0) / 2 ^ (8 * (3 - i % 4)) % 256
def hashP (x : List (BitVec 32)) (n : Nat) : List Int := (List.range 32).map fun i => if i < n then wv (x.getD (i / 4) 0) / 2 ^ (8 * (3 - i % 4)) % 256 else 0
theorem hashOf_length (x : List (BitVec 32)) : (hashOf x).length = 32 := by simp [hashOf]
theorem hashP_length (x : List (BitVec 32)) (n : Nat) : (hashP x n).length = 32 := by simp [hashP]
theorem hashP_zero (x : List (BitVec 32)) : hashP x 0 = List.replicate 32 0 := by
  rw [List.eq_replicate_iff]
  refine ⟨by simp [hashP], fun b hb => ?_⟩
  simp only [hashP, List.mem_map] at hb
  obtain ⟨j, _, rfl⟩ := hb
  simp
theorem hashP_full (x : List (BitVec 32)) : hashP x 32 = hashOf x := by
  apply List.ext_getElem (by simp [hashP, hashOf])
  intro j h1 h2
  rw [hashOf_length] at h2
  simp [hashP, hashOf, h2]
theorem hashP_set (x : List (BitVec 32)) (i : Nat) : (hashP x i).set i (wv (x.getD (i / 4) 0) / 2 ^ (8 * (3 - i % 4)) % 256) = hashP x (i + 1) := by
  apply List.ext_getElem (by simp [hashP])
  intro j h1 h2
  rw [List.getElem_set]
  simp only [hashP, List.getElem_map, List.getElem_range]
  by_cases hj : i = j
  · subst hj; simp
  · rw [if_neg hj]
    by_cases hl : j < i
    · rw [if_pos hl, if_pos (by omega)]
    · rw [if_neg hl, if_neg (by omega)]
theorem hashOf_byt (x : List (BitVec 32)) : Byt (hashOf x) := by
  intro z hz
  simp only [hashOf, List.mem_map] at hz
  obtain ⟨i, _, rfl⟩ := hz
  omega
theorem info_h32 : (Tryd.prog.info? 24).map (·.size) = some 32 := by kernel_rfl
theorem size_h32 (l : List Int) (h : l.length = 32) : (Tryd.prog.info? 24).map (·.size) = some (u8s l).size := by rw [info_h32, u8s_size, h]

set_option maxRecDepth 100000 in
set_option maxHeartbeats 1600000 in
theorem hash_any (x : List (BitVec 32)) (w : World) (hx : x.length = 8) :
    Calls Tryd.prog 36 #[.agg (wvs x)] w fun e w' => e = .returned (.agg (u8s (hashOf x))) ∧ Below w.heap.size w w' := by
  have HX := Lib.hid hx
  clear hx
  go_enter Tryd.func36, Tryd.ntmps36
  go_wp2_with fail
  refine gen3 fun W0 hW => ?_
  obtain ⟨h0, h1, h2, hsz, hbel⟩ := hW
  have HX0 := Lib.hid (show ArrW W0 w.heap.size 63 x from h0)
  have HR := Lib.hid (show ArrB W0 (w.heap.size + 1) 24 (List.replicate 32 0) from h1)
  have HM := Lib.hid (show ArrB W0 (w.heap.size + 1 + 1) 24 (List.replicate 32 0) from h2)
  have HB := Lib.hid hbel
  clear h0 h1 h2 hsz hbel
  generalize hP0 : w.heap.size = P0 at *
  have HP0 := Lib.hid hP0
  clear hP0
  go_loopw [5] (fun v5 wr => ∃ i : Nat, i ≤ 32 ∧ v5 = .int .i64 (i : Nat) ∧ ArrB wr (P0 + 1 + 1) 24 (hashP x i) ∧ Below (P0 + 1 + 1) W0 wr) (fun v _ => 32 - (intOf v).toNat)
  case atStart => exact ⟨0, by omega, rfl, by rw [hashP_zero]; exact HM.out, Below.refl _ _⟩
  case round =>
    obtain ⟨i, hi, rfl, hA, hb⟩ := hrel
    by_cases hlt : i < 32
    · obtain ⟨j, hj, hj2⟩ : ∃ j : Nat, (i : Int) / 4 = (j : Int) ∧ i / 4 = j := ⟨i / 4, by omega, rfl⟩
      have cj : wr.cell? ⟨P0, j, none⟩ = some (.int .u32 (wv (x.getD j 0))) := (hb.cell (p := ⟨P0, j, none⟩) (show P0 < P0 + 1 + 1 by omega)).trans (HX0.out.cell (by rw [HX.out]; omega))
      have hset := hashP_set x i
      rw [hj2] at hset
      have ci := hA.cell (k := i) (by rw [hashP_length]; exact hlt)
      have fi := hA.free i
      generalize (hashP x i).getD i 0 = old at *
      generalize x.getD j 0 = y at *
      have hiI : (i : Int) < 32 := by omega
      have hi0 : (0 : Int) ≤ (i : Int) := by omega
      have hjI : (j : Int) < 8 := by omega
      have hj0 : (0 : Int) ≤ (j : Int) := by omega
      have r0 : 0 ≤ (i : Int) % 4 := by omega
      have r1 : (i : Int) % 4 ≤ 3 := by omega
      have y0 := wv_pos y
      have HSET := Lib.hid hset
      have HE := Lib.hid (show (8 * (3 - (i : Int) % 4)).toNat = 8 * (3 - i % 4) by omega)
      have HLT := Lib.hid hlt
      have HA := Lib.hid hA
      have HB2 := Lib.hid hb
      clear hset hlt hi hA hb hj2
      go_wp2_with fail
      go_roundw
      case rel => exact ⟨i + 1, by have := HLT.out; omega, by go_num, by rw [← HSET.out]; exact HA.out.set i _, HB2.out.setCell (p := ⟨P0 + 1 + 1, i, none⟩) (Nat.le_refl _) _⟩
      case measure => simp [intOf]; omega
    · have hge : (32 : Int) ≤ (i : Int) := by omega
      have e : i = 32 := by omega
      rw [e, hashP_full] at hA
      have HA := Lib.hid (show wr.heap[P0 + 1 + 1]? = some (.cells (u8s (hashOf x)) 24 (0, 0)) from hA)
      have HR1 := Lib.hid (show wr.heap[P0 + 1]? = some (.cells (u8s (List.replicate 32 0)) 24 (0, 0)) from HR.out.below hb (by omega))
      have SH := Lib.hid (size_h32 (hashOf x) (hashOf_length x))
      have SE := Lib.hid (show (u8s (List.replicate 32 0)).size = (u8s (hashOf x)).size by rw [u8s_size, u8s_size, hashOf_length]; rfl)
      have HB2 := Lib.hid hb
      clear hlt hi hA hb e
      go_wp2_with (first
        | (with_reducible refine wpList_load_row (o := ⟨some 21, _, _, _, _, _⟩) rfl 24 _ rfl (P0 + 1 + 1) rfl 24 (u8s (hashOf x)) (0, 0) _ HA.out Tryd.underlying24 rfl SH.out ?_)
        | (with_reducible refine wpList_store_row (o := ⟨none, .store _ (.tmp 2) _, _, _, _, _⟩) rfl 24 _ _ rfl (P0 + 1) (u8s (hashOf x)) rfl rfl 24 (u8s (List.replicate 32 0)) HR1.out SH.out SE.out (u8s_one _) ?_))
      refine bodyPost_ret (v := .agg (u8s (hashOf x))) (results_cell_row Tryd.results36 _ _ (P0 + 1) 24 (u8s (hashOf x)) (0, 0) _ rfl (setRow_heap _ (P0 + 1) _ (u8s (hashOf x)) _ _ HR1.out) Tryd.underlying24 rfl SH.out) rfl ⟨rfl, ?_⟩
      rw [HP0.out]
      exact (HB.out.trans (HB2.out.mono (by omega))).trans ⟨rfl, rfl, rfl, by simp, fun k hk => setRow_other _ _ k _ (by omega)⟩
end Go.Proofs.YtpmeiadnikenmaaDoor
