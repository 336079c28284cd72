/-
  The code on blocks: mixed, unmixed.
-/
import Derived.Test.YtajfooefofafmaaYTurn
namespace Go.Proofs.Ytajfooefofafmaa
open Go.RowKit

def mixK (a : List (BitVec 8)) (k : Nat) : BitVec 8 := mixAt a (4 * (k / 4)) (k % 4)
set_option maxRecDepth 100000 in
set_option maxHeartbeats 1600000 in
theorem mixed_any (a : List (BitVec 8)) (w : World) (ha : a.length = 16) :
    Calls Try.prog 36 #[.agg (yvs a)] w fun e w' => e = .returned (.agg (yvs (mixB a))) ∧ Below w.heap.size w w' := by
  have HAL := Lib.hid ha
  clear ha
  go_enter Try.func36, Try.ntmps36
  go_wp2
  refine ygen3 fun W0 hW => ?_
  obtain ⟨h0, h1, h2, hsz, hbel⟩ := hW
  have HX0 := Lib.hid (show ArrY W0 w.heap.size 55 a from h0)
  have HR := Lib.hid (show ArrY W0 (w.heap.size + 1) 55 (zeroY 16) from h1)
  have HM := Lib.hid (show ArrY W0 (w.heap.size + 1 + 1) 55 (zeroY 16) from h2)
  have HB := Lib.hid hbel
  clear h0 h1 h2 hsz hbel
  generalize hP0 : w.heap.size = P0 at *
  have HP0 := Lib.hid hP0
  clear hP0
  go_loopw [4] (fun v4 wr => ∃ q c : Nat, q ≤ 4 ∧ c = 4 * q ∧ v4 = .int .i64 (c : Nat) ∧ ArrY wr (P0 + 1 + 1) 55 (setF id (mixK a) c (zeroY 16)) ∧ Below (P0 + 1 + 1) W0 wr) (fun v _ => 16 - (intOf v).toNat)
  case atStart => exact ⟨0, 0, by omega, rfl, rfl, HM.out, Below.refl _ _⟩
  case round =>
    obtain ⟨q, c, hq, hc, rfl, hA, hb⟩ := hrel
    by_cases hlt : q < 4
    · have hX := HX0.out.below hb (show P0 < P0 + 1 + 1 by omega)
      have c0 := hX.cell (k := c) (by rw [HAL.out]; omega)
      have c1 := hX.cell (k := c + 1) (by rw [HAL.out]; omega)
      have c2 := hX.cell (k := c + 2) (by rw [HAL.out]; omega)
      have c3 := hX.cell (k := c + 3) (by rw [HAL.out]; omega)
      have hall : mixK a = mixK a := rfl
      obtain ⟨x0, e0⟩ : ∃ x, a.getD c 0 = x := ⟨_, rfl⟩
      obtain ⟨x1, e1⟩ : ∃ x, a.getD (c + 1) 0 = x := ⟨_, rfl⟩
      obtain ⟨x2, e2⟩ : ∃ x, a.getD (c + 2) 0 = x := ⟨_, rfl⟩
      obtain ⟨x3, e3⟩ : ∃ x, a.getD (c + 3) 0 = x := ⟨_, rfl⟩
      rw [e0] at c0
      rw [e1] at c1
      rw [e2] at c2
      rw [e3] at c3
      have HE := Lib.hid (And.intro e0 (And.intro e1 (And.intro e2 e3)))
      have HQ := Lib.hid (And.intro hq (And.intro hc hlt))
      have hcI : (c : Int) < 13 := by omega
      have hc16 : (c : Int) < 16 := by omega
      have hc0 : (0 : Int) ≤ (c : Int) := by omega
      have HA := Lib.hid hA
      have HB2 := Lib.hid hb
      have hxor := yv_xor
      clear hA hb hlt hX hq hc e0 e1 e2 e3 hall
      go_wp2_with fail
      go_quiet (fail)
      go_wp2_with fail
      refine ygen_drewN fun W1 hW1 => ?_
      obtain ⟨hw1, _, hk1⟩ := hW1
      have HA1 := Lib.hid (show ArrY W1 (P0 + 1 + 1) 55 (setF id (mixK a) c (zeroY 16)) from (hw1 _).trans HA.out)
      have HB1 := Lib.hid (hk1 _ _ HB2.out)
      clear hw1 hk1 c0 c1 c2 c3 hxor
      go_loopw [31] (fun v31 wr => ∃ i : Nat, i ≤ 4 ∧ v31 = .int .i64 (i : Nat) ∧ ArrY wr (P0 + 1 + 1) 55 (setF id (mixK a) (c + i) (zeroY 16)) ∧ Below (P0 + 1 + 1) W0 wr) (fun v _ => 4 - (intOf v).toNat)
      case atStart => exact ⟨0, by omega, rfl, HA1.out, HB1.out⟩
      case round =>
        obtain ⟨i, hi, rfl, hA, hb⟩ := hrel
        by_cases hlt : i < 4
        · have hX := HX0.out.below hb (show P0 < P0 + 1 + 1 by omega)
          obtain ⟨n, hn, hn2⟩ : ∃ n : Nat, ((i : Int) + 1) % 4 = (n : Int) ∧ (i + 1) % 4 = n := ⟨(i + 1) % 4, by omega, rfl⟩
          have hcq := HQ.out
          have ch := hX.cell (k := c + i) (by rw [HAL.out]; omega)
          have cn := hX.cell (k := c + n) (by rw [HAL.out]; omega)
          have ci := hA.cell (k := c + i) (by rw [setF_length]; show c + i < 16; omega)
          have fi := hA.free (c + i)
          have hmk : mixK a (c + i) = mixY (x0 ^^^ x1 ^^^ x2 ^^^ x3) (a.getD (c + i) 0) (a.getD (c + n) 0) := by
            unfold mixK mixAt
            rw [show 4 * ((c + i) / 4) = c by omega, show (c + i) % 4 = i by omega, hn2, HE.out.1, HE.out.2.1, HE.out.2.2.1, HE.out.2.2.2]
          generalize a.getD (c + i) 0 = h at *
          generalize a.getD (c + n) 0 = y at *
          generalize (setF id (mixK a) (c + i) (zeroY 16)).getD (c + i) 0 = old at *
          have HST := Lib.hid (show setF id (mixK a) (c + (i + 1)) (zeroY 16) = (setF id (mixK a) (c + i) (zeroY 16)).set (c + i) (mixK a (c + i)) from rfl)
          have HMK := Lib.hid hmk
          have HA3 := Lib.hid hA
          have HB3 := Lib.hid hb
          have HLT := Lib.hid hlt
          have hiI : (i : Int) < 4 := by omega
          have hi0 : (0 : Int) ≤ (i : Int) := by omega
          have hnI : (n : Int) < 4 := by omega
          have hn0 : (0 : Int) ≤ (n : Int) := by omega
          have hxor := yv_xor
          clear hA hb hlt hi hX hcq hmk hn2
          go_wp2_with fail
          go_quiet (fail)
          go_wp2_with fail
          refine (double_any (h ^^^ y) _).mono ?_
          rintro e w1 ⟨rfl, rfl⟩
          go_wp2_with fail
          go_roundw
          case rel =>
            exact ⟨i + 1, by have := HLT.out; omega, by go_num, by rw [HST.out, HMK.out]; exact ArrY.set (w := _) HA3.out (c + i) _, (ybelow_drewN HB3.out _).setCell (p := ⟨P0 + 1 + 1, c + i, none⟩) (Nat.le_refl _) _⟩
          case measure => simp [intOf]; omega
        · obtain rfl : i = 4 := by omega
          have HA4 := Lib.hid hA
          have HB4 := Lib.hid hb
          clear hA hb hlt hi
          go_wp2_with fail
          go_roundw
          case rel => exact ⟨q + 1, c + 4, by have := HQ.out; omega, by have := HQ.out; omega, by go_num, HA4.out, HB4.out⟩
          case measure => simp [intOf]; omega
    · have hge : (16 : Int) ≤ (c : Int) := by omega
      obtain rfl : c = 16 := by omega
      rw [setF_map] at hA
      have HA := Lib.hid (show wr.heap[P0 + 1 + 1]? = some (.cells (yvs (mixB a)) 55 (0, 0)) from hA)
      have HR1 := Lib.hid (show wr.heap[P0 + 1]? = some (.cells (yvs (zeroY 16)) 55 (0, 0)) from HR.out.below hb (by omega))
      have SH := Lib.hid (size_block (mixB a) (mixB_length _))
      have SE := Lib.hid (show (yvs (zeroY 16)).size = (yvs (mixB a)).size by rw [yvs_size, yvs_size, mixB_length _]; rfl)
      have HB2 := Lib.hid (HB.out.trans (hb.mono (by omega)))
      clear hlt hq hc hA hb
      go_wp2_with (first
        | (with_reducible refine wpList_load_row (o := ⟨some 59, _, _, _, _, _⟩) rfl 55 _ rfl (P0 + 1 + 1) rfl 55 (yvs (mixB a)) (0, 0) _ HA.out Try.underlying55 rfl SH.out ?_)
        | (with_reducible refine wpList_store_row (o := ⟨none, .store _ (.tmp 2) _, _, _, _, _⟩) rfl 55 _ _ rfl (P0 + 1) (yvs (mixB a)) rfl rfl 55 (yvs (zeroY 16)) HR1.out SH.out SE.out (yvs_one _) ?_))
      refine bodyPost_ret (v := .agg (yvs (mixB a))) (results_cell_row Try.results36 _ _ (P0 + 1) 55 (yvs (mixB a)) (0, 0) _ rfl (setRow_heap _ (P0 + 1) _ (yvs (mixB a)) _ _ HR1.out) Try.underlying55 rfl SH.out) rfl ⟨rfl, ?_⟩
      rw [HP0.out]
      exact ybelow_row HB2.out (by omega) _
end Go.Proofs.Ytajfooefofafmaa
