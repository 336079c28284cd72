/-
  The document's example of layer 4: alive returns true and leaves what was there as it was.
-/
import Derived.Test.YtajfooefofafmaaYOpen
import Derived.Test.YtajfooefofafmaaYEq
namespace Go.Proofs.Ytajfooefofafmaa
open Go.RowKit

theorem yv_nat (n : Nat) : yv (BitVec.ofNat 8 n) = (n : Int) % 256 := by
  unfold yv
  rw [BitVec.toNat_ofNat]
  simp
theorem setF_exK : setF id (fun i => BitVec.ofNat 8 i) 32 (zeroY 32) = exK := by decide +kernel
theorem setF_exB : setF id (fun i => BitVec.ofNat 8 (17 * i)) 16 (zeroY 16) = exB := by decide +kernel
theorem exW_yvs : yvs exW = #[.int .u8 142, .int .u8 162, .int .u8 183, .int .u8 202, .int .u8 81, .int .u8 103, .int .u8 69, .int .u8 191, .int .u8 234, .int .u8 252, .int .u8 73, .int .u8 144, .int .u8 75, .int .u8 73, .int .u8 96, .int .u8 137] := by kernel_rfl
theorem exW_length : exW.length = 16 := by decide
set_option maxRecDepth 100000 in
set_option maxHeartbeats 1600000 in
theorem alive4_any (w : World) : Calls Try.prog 24 #[] w fun e w' => e = .returned (.bool true) ∧ Below w.heap.size w w' := by
  go_enter Try.func24, Try.ntmps24
  go_wp2_with fail
  refine ygen2 fun W0 hW => ?_
  obtain ⟨h0, h1, hsz, hbel⟩ := hW
  have HK := Lib.hid (show ArrY W0 w.heap.size 28 (zeroY 32) from h0)
  have HM := Lib.hid (show ArrY W0 (w.heap.size + 1) 55 (zeroY 16) from h1)
  have HB := Lib.hid hbel
  have HZ := Lib.hid hsz
  clear h0 h1 hsz hbel
  go_loopw [6] (fun v6 wr => ∃ i : Nat, i ≤ 32 ∧ v6 = .int .i64 (i : Nat) ∧ ArrY wr w.heap.size 28 (setF id (fun i => BitVec.ofNat 8 i) i (zeroY 32)) ∧ ArrY wr (w.heap.size + 1) 55 (zeroY 16) ∧ Below w.heap.size w wr) (fun v _ => 32 - (intOf v).toNat)
  case atStart => exact ⟨0, by omega, rfl, HK.out, HM.out, HB.out⟩
  case round =>
    obtain ⟨i, hi, rfl, hA, hR, hb⟩ := hrel
    by_cases hlt : i < 32
    · have hv := yv_nat i
      have ci := hA.cell (k := i) (by rw [setF_length]; exact hlt)
      have fi := hA.free i
      have HST := Lib.hid (show setF id (fun i => BitVec.ofNat 8 i) (i + 1) (zeroY 32) = (setF id (fun i => BitVec.ofNat 8 i) i (zeroY 32)).set i (BitVec.ofNat 8 i) from rfl)
      have HV := Lib.hid (show (i : Int) = yv (BitVec.ofNat 8 i) by rw [hv]; omega)
      have HA := Lib.hid hA
      have HR2 := Lib.hid hR
      have HB2 := Lib.hid hb
      have HLT := Lib.hid hlt
      have hiI : (i : Int) < 32 := by omega
      have hi0 : (0 : Int) ≤ (i : Int) := by omega
      generalize (setF id (fun i => BitVec.ofNat 8 i) i (zeroY 32)).getD i 0 = old at *
      clear hA hR hb hlt hi hv
      go_wp2_with fail
      go_roundw
      case rel => exact ⟨i + 1, by have := HLT.out; omega, by go_num, by rw [HST.out]; have h := HA.out.set i (BitVec.ofNat 8 i); rw [← HV.out] at h; exact h, HR2.out.other _ _ (show w.heap.size + 1 ≠ w.heap.size by omega), HB2.out.setCell (p := ⟨w.heap.size, i, none⟩) (Nat.le_refl _) _⟩
      case measure => simp [intOf]; omega
    · have HI := Lib.hid (show i = 32 by omega)
      have hge : (32 : Int) ≤ (i : Int) := by omega
      have HK := Lib.hid (show ArrY wr w.heap.size 28 exK by rw [HI.out] at hA; rw [← setF_exK]; exact hA)
      have HM := Lib.hid hR
      have HB := Lib.hid hb
      clear hA hR hb hlt hi
      go_wp2_with fail
      clear hge
      go_loopw [14] (fun v14 wr => ∃ i : Nat, i ≤ 16 ∧ v14 = .int .i64 (i : Nat) ∧ ArrY wr w.heap.size 28 exK ∧ ArrY wr (w.heap.size + 1) 55 (setF id (fun i => BitVec.ofNat 8 (17 * i)) i (zeroY 16)) ∧ Below w.heap.size w wr) (fun v _ => 16 - (intOf v).toNat)
      case atStart => exact ⟨0, by omega, rfl, HK.out, HM.out, HB.out⟩
      case round =>
        obtain ⟨i, hi, rfl, hA, hR, hb⟩ := hrel
        by_cases hlt : i < 16
        · have hv := yv_nat (17 * i)
          have ci := hR.cell (k := i) (by rw [setF_length]; exact hlt)
          have fi := hR.free i
          have HST := Lib.hid (show setF id (fun i => BitVec.ofNat 8 (17 * i)) (i + 1) (zeroY 16) = (setF id (fun i => BitVec.ofNat 8 (17 * i)) i (zeroY 16)).set i (BitVec.ofNat 8 (17 * i)) from rfl)
          have HV := Lib.hid (show 17 * (i : Int) = yv (BitVec.ofNat 8 (17 * i)) by rw [hv]; omega)
          have HA := Lib.hid hA
          have HR2 := Lib.hid hR
          have HB2 := Lib.hid hb
          have HLT := Lib.hid hlt
          have hiI : (i : Int) < 16 := by omega
          have hi0 : (0 : Int) ≤ (i : Int) := by omega
          generalize (setF id (fun i => BitVec.ofNat 8 (17 * i)) i (zeroY 16)).getD i 0 = old at *
          clear hA hR hb hlt hi hv
          go_wp2_with fail
          go_roundw
          case rel => exact ⟨i + 1, by have := HLT.out; omega, by go_num, HA.out.other _ _ (show w.heap.size ≠ w.heap.size + 1 by omega), by rw [HST.out]; have h := HR2.out.set i (BitVec.ofNat 8 (17 * i)); rw [← HV.out] at h; exact h, HB2.out.setCell (p := ⟨w.heap.size + 1, i, none⟩) (show w.heap.size ≤ w.heap.size + 1 by omega) _⟩
          case measure => simp [intOf]; omega
        · have HI := Lib.hid (show i = 16 by omega)
          have hge : (16 : Int) ≤ (i : Int) := by omega
          have HM2 := Lib.hid (show ArrY wr (w.heap.size + 1) 55 exB by rw [HI.out] at hR; rw [← setF_exB]; exact hR)
          have HK2 := Lib.hid hA
          have HB2 := Lib.hid hb
          clear hA hR hb hlt hi
          go_upto_region 14 with fail
          generalize hW5 : World.alloc wr _ = W5
          have hX5 : ArrY W5 wr.heap.size 55 exW := by
            rw [← hW5]
            unfold ArrY
            rw [exW_yvs]
            exact heap_alloc_new wr _
          have hb5 : Below wr.heap.size wr W5 := by rw [← hW5]; exact (Below.refl _ wr).alloc (Nat.le_refl _) _
          have hz5 : wr.heap.size < W5.heap.size := by rw [← hW5]; simp
          have hz4 : w.heap.size + 1 < wr.heap.size := by
            have := HM2.out
            exact Nat.lt_of_not_le fun h => by
              unfold ArrY at this
              rw [Array.getElem?_eq_none h] at this
              cases this
          have hK5 := HK2.out.below hb5 (by omega)
          have hM5 := HM2.out.below hb5 hz4
          have HB5 := Lib.hid (HB2.out.trans (hb5.mono (by omega)))
          have hseal := fun w => seal_any exK exB w exK_length exB_length
          rw [ex_seal] at hseal
          have hopen := fun w => open_any exK exW w exK_length exW_length
          rw [ex_open] at hopen
          have IK := Lib.hid (show (Try.prog.info? 28).map (·.size) = some (yvs exK).toList.length by rw [Array.length_toList]; exact size_key _ exK_length)
          have IB := Lib.hid (show (Try.prog.info? 55).map (·.size) = some (yvs exB).toList.length by rw [Array.length_toList]; exact size_block _ exB_length)
          have IW := Lib.hid (show (Try.prog.info? 55).map (·.size) = some (yvs exW).toList.length by rw [Array.length_toList]; exact size_block _ exW_length)
          have HQW := Lib.hid (show ∀ w, (Op.equalIn 10000 55 (.agg (yvs exW)) (.agg (yvs exW))).run Try.prog w = .ok true w from fun w => by rw [eq_block exW exW exW_length exW_length]; simp)
          have HQB := Lib.hid (show ∀ w, (Op.equalIn 10000 55 (.agg (yvs exB)) (.agg (yvs exB))).run Try.prog w = .ok true w from fun w => by rw [eq_block exB exB exB_length exB_length]; simp)
          clear hW5
          generalize exK = KX at *
          generalize exB = BX at *
          generalize exW = WX at *
          have HSEAL := Lib.hid hseal
          have HOPEN := Lib.hid hopen
          generalize wr.heap.size = PX at *
          have HS := Lib.hid (show ∀ W, Below W5.heap.size W5 W → W.rangeAt w.heap.size 0 (yvs KX).toList ∧ W.rangeAt (w.heap.size + 1) 0 (yvs BX).toList ∧ W.rangeAt PX 0 (yvs WX).toList from
            fun W h => ⟨(hK5.below h (by omega)).all, (hM5.below h (by omega)).all, (hX5.below h hz5).all⟩)
          clear hX5 hb5 hz5 hz4 hK5 hM5 hseal hopen
          refine wp_region_noPanic ?_
          refine wp_region_held_drew (S := fun w' => w'.rangeAt w.heap.size 0 (yvs KX).toList ∧ w'.rangeAt (w.heap.size + 1) 0 (yvs BX).toList ∧ w'.rangeAt PX 0 (yvs WX).toList) (by kernel_rfl) (HS.out _ (Below.refl _ W5).drew) (fun hHeld => ?_)
          refine wpAnyH_take (i := 0) (oi := ⟨some 24, _, _, _, _, _⟩) rfl (by kernel_rfl) (by decide +kernel) (by decide +kernel) (fun _ _ _ h => h) (yieldsIf_load_mid (by rfl) _ _ rfl (w.heap.size) 0 rfl (yvs KX).toList _ (fun w' h => h.1) Try.underlying28 rfl IK.out) (by assumption) ?_
          try simp only [Act.put, List.setIfInBounds_toArray, List.set_cons_zero, List.set_cons_succ, Array.toArray_toList]
          refine wpAnyH_take (i := 1) (oi := ⟨some 25, _, _, _, _, _⟩) rfl (by kernel_rfl) (by decide +kernel) (by decide +kernel) (fun _ _ _ h => h) (yieldsIf_load_mid (by rfl) _ _ rfl (w.heap.size + 1) 0 rfl (yvs BX).toList _ (fun w' h => h.2.1) Try.underlying55 rfl IB.out) (by assumption) ?_
          try simp only [Act.put, List.setIfInBounds_toArray, List.set_cons_zero, List.set_cons_succ, Array.toArray_toList]
          refine wpAnyH_take (i := 3) (oi := ⟨some 27, _, _, _, _, _⟩) rfl (by kernel_rfl) (by decide +kernel) (by decide +kernel) (fun _ _ _ h => h) (yieldsIf_load_mid (by rfl) _ _ rfl (PX) 0 rfl (yvs WX).toList _ (fun w' h => h.2.2) Try.underlying55 rfl IW.out) (by assumption) ?_
          try simp only [Act.put, List.setIfInBounds_toArray, List.set_cons_zero, List.set_cons_succ, Array.toArray_toList]
          refine wpAnyH_ready (rs := [2]) (by decide +kernel) (by simp) ?_
          refine AllReadyH.cons rfl (fun K hK => ?_) AllReadyH.nil
          go_simp
          go_at_call 22
          refine (HSEAL.out _).mono ?_
          rintro e w8 ⟨rfl, hb⟩
          have Q8 := Lib.hid (show Below W5.heap.size W5 w8 from (Below.refl _ W5).drew.trans hb)
          clear hb hHeld
          go_wp2_with fail
          refine hK.out _ _ (HS.out _ Q8.out) (fun hHeld => ?_)
          clear hK K
          try simp only [Act.put, List.setIfInBounds_toArray, List.set_cons_zero, List.set_cons_succ]
          have hq := HQW.out
          refine wpAnyH_take (i := 4) (oi := ⟨some 28, _, _, _, _, _⟩) (v := ?_) rfl (by kernel_rfl) (by decide +kernel) (by decide +kernel) (fun _ _ _ h => h) (Or.inl ⟨by rfl, ?_⟩) (by assumption) ?_
          rotate_left 1
          · (intro w' hSw; go_simp; try with_reducible rfl)
          try simp only [Act.put, List.setIfInBounds_toArray, List.set_cons_zero, List.set_cons_succ]
          refine wpAnyH_take (i := 5) (oi := ⟨some 29, _, _, _, _, _⟩) (v := ?_) rfl (by kernel_rfl) (by decide +kernel) (by decide +kernel) (fun _ _ _ h => h) (Or.inl ⟨by rfl, ?_⟩) (by assumption) ?_
          rotate_left 1
          · (intro w' hSw; go_simp; try with_reducible rfl)
          try simp only [Act.put, List.setIfInBounds_toArray, List.set_cons_zero, List.set_cons_succ]
          clear hq
          refine wpAnyH_take (i := 6) (oi := ⟨some 30, _, _, _, _, _⟩) rfl (by kernel_rfl) (by decide +kernel) (by decide +kernel) (fun _ _ _ h => h) (yieldsIf_load_mid (by rfl) _ _ rfl (w.heap.size) 0 rfl (yvs KX).toList _ (fun w' h => h.1) Try.underlying28 rfl IK.out) (by assumption) ?_
          try simp only [Act.put, List.setIfInBounds_toArray, List.set_cons_zero, List.set_cons_succ, Array.toArray_toList]
          refine wpAnyH_take (i := 7) (oi := ⟨some 31, _, _, _, _, _⟩) rfl (by kernel_rfl) (by decide +kernel) (by decide +kernel) (fun _ _ _ h => h) (yieldsIf_load_mid (by rfl) _ _ rfl (PX) 0 rfl (yvs WX).toList _ (fun w' h => h.2.2) Try.underlying55 rfl IW.out) (by assumption) ?_
          try simp only [Act.put, List.setIfInBounds_toArray, List.set_cons_zero, List.set_cons_succ, Array.toArray_toList]
          refine wpAnyH_take (i := 9) (oi := ⟨some 33, _, _, _, _, _⟩) rfl (by kernel_rfl) (by decide +kernel) (by decide +kernel) (fun _ _ _ h => h) (yieldsIf_load_mid (by rfl) _ _ rfl (w.heap.size + 1) 0 rfl (yvs BX).toList _ (fun w' h => h.2.1) Try.underlying55 rfl IB.out) (by assumption) ?_
          try simp only [Act.put, List.setIfInBounds_toArray, List.set_cons_zero, List.set_cons_succ, Array.toArray_toList]
          refine wpAnyH_ready (rs := [8]) (by decide +kernel) (by simp) ?_
          refine AllReadyH.cons rfl (fun K hK => ?_) AllReadyH.nil
          go_simp
          go_at_call 28
          refine (HOPEN.out _).mono ?_
          rintro e w9 ⟨rfl, hb⟩
          have Q9 := Lib.hid (show Below W5.heap.size W5 w9 from Q8.out.trans (hb.mono Q8.out.size))
          clear hb hHeld
          go_wp2_with fail
          refine hK.out _ _ (HS.out _ Q9.out) (fun hHeld => ?_)
          clear hK K
          try simp only [Act.put, List.setIfInBounds_toArray, List.set_cons_zero, List.set_cons_succ]
          have hq := HQB.out
          refine wpAnyH_take (i := 10) (oi := ⟨some 34, _, _, _, _, _⟩) (v := ?_) rfl (by kernel_rfl) (by decide +kernel) (by decide +kernel) (fun _ _ _ h => h) (Or.inl ⟨by rfl, ?_⟩) (by assumption) ?_
          rotate_left 1
          · (intro w' hSw; go_simp; try with_reducible rfl)
          try simp only [Act.put, List.setIfInBounds_toArray, List.set_cons_zero, List.set_cons_succ]
          refine wpAnyH_take (i := 11) (oi := ⟨some 35, _, _, _, _, _⟩) (v := ?_) rfl (by kernel_rfl) (by decide +kernel) (by decide +kernel) (fun _ _ _ h => h) (Or.inl ⟨by rfl, ?_⟩) (by assumption) ?_
          rotate_left 1
          · (intro w' hSw; go_simp; try with_reducible rfl)
          try simp only [Act.put, List.setIfInBounds_toArray, List.set_cons_zero, List.set_cons_succ]
          refine wpAnyH_take (i := 12) (oi := ⟨some 0, _, _, _, _, _⟩) (v := ?_) rfl (by kernel_rfl) (by decide +kernel) (by decide +kernel) (fun _ _ _ h => h) (Or.inl ⟨by rfl, ?_⟩) (by assumption) ?_
          rotate_left 1
          · (intro w' hSw; go_simp; try with_reducible rfl)
          simp only [Act.put, List.setIfInBounds_toArray, List.set_cons_zero]
          refine wpAnyH_done (by decide +kernel) ?_ _
          refine NoPanic.normal ?_
          go_wp2_with fail
          go_ret
          exact ⟨rfl, HB5.out.trans (Q9.out.mono HB5.out.size)⟩
end Go.Proofs.Ytajfooefofafmaa
