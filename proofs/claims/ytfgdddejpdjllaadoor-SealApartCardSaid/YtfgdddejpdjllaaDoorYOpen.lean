/-
  The code: Open.
-/
import Derived.Test.YtfgdddejpdjllaaDoorAes0
namespace Go.Proofs.YtfgdddejpdjllaaDoor
set_option maxRecDepth 4000
open Go.RowKit

set_option maxRecDepth 100000 in
set_option maxHeartbeats 3200000 in
theorem open_any (k b : List (BitVec 8)) (w : World) (hk : k.length = 32) (hb : b.length = 16) :
    Calls Tryd.prog 25 #[.agg (yvs k), .agg (yvs b)] w fun e w' => e = .returned (.agg (yvs (openB (keysL k) b))) ∧ Below w.heap.size w w' := by
  have HKL := Lib.hid hk
  have HBL := Lib.hid hb
  have SK := Lib.hid (size_key k hk)
  have SB := Lib.hid (size_block b hb)
  have HRD := Lib.hid (fun w => rounds_any k w hk)
  have hz := zero_rounds
  have HTL := Lib.hid (keysL_length k hk)
  generalize keysL k = T at *
  have ST := Lib.hid (size_rounds T HTL.out)
  clear hk hb
  go_enter Tryd.func25, Tryd.ntmps25
  go_wp2_with (first
    | (with_reducible refine wpList_load_row (o := ⟨some 7, _, _, _, _, _⟩) rfl 25 _ rfl w.heap.size rfl 25 (yvs k) (0, 0) _ (ythree w _ _ _).1 Tryd.underlying25 rfl SK.out ?_))
  obtain ⟨_, h1, h2, hsz, hbel⟩ := ythree w (.cells (yvs k) 25) (.cells (yvs b) 71) (.cells (yvs (zeroY 16)) 71)
  refine (HRD.out _).mono ?_
  rintro e w1 ⟨rfl, hb1⟩
  replace hb1 : Below (w.heap.size + 3) (((w.alloc (.cells (yvs k) 25)).alloc (.cells (yvs b) 71)).alloc (.cells (yvs (zeroY 16)) 71)) w1 := by rw [← hsz]; exact hb1
  have hz1 : w.heap.size + 3 ≤ w1.heap.size := by rw [← hsz]; exact hb1.size
  have h1' := (hb1.block _ (by omega)).trans h1
  have h2' := (hb1.block _ (by omega)).trans h2
  have hB1 := hbel.trans (hb1.mono (by omega))
  have H1 := Lib.hid (And.intro hz1 (And.intro h1' (And.intro h2' hB1)))
  clear h1 h2 hsz hbel hb1 hz1 h1' h2' hB1
  go_upto_region 2 with (first
    | (with_reducible refine wpList_store_row (o := ⟨none, .store _ (.tmp 5) _, _, _, _, _⟩) rfl 91 _ _ rfl w1.heap.size (yvs T) rfl rfl 91 _ (heap_alloc_new w1 _) ST.out ?c1 (yvs_one _) ?_))
  case c1 => rw [yvs_size, yvs_size, HTL.out]; simp [zeroY]
  clear hz
  generalize hW0 : World.setRow _ w1.heap.size _ = W0
  have hSW : SW w W0 w1.heap.size b T := by
    obtain ⟨e1, e2, e3⟩ := ygen_row (w := w1) (old := yvs (zeroY 240)) (cs := yvs T) (T := 91)
    obtain ⟨z1, f1, f2, g1⟩ := H1.out
    rw [← hW0]
    exact ⟨(e3.block _ (by omega)).trans f1, (e3.block _ (by omega)).trans f2, e1, g1.trans (e3.mono (by omega)), by omega, by rw [e2]; omega⟩
  have HS := Lib.hid hSW
  clear hW0 hSW H1
  generalize w1.heap.size = PR at *
  have hK0 := Lib.hid (show W0.rangeAt PR 224 (yvs (rkeyL T 14)).toList from HS.out.range 14)
  have SK0 := Lib.hid (size_rkey T HTL.out 14 (by omega))
  have hB0 := Lib.hid HS.out.blk
  go_wp2_with (first
    | (with_reducible refine wpList_load_row (o := ⟨some 9, _, _, _, _, _⟩) rfl 71 _ rfl (w.heap.size + 1) rfl 71 (yvs b) (0, 0) _ hB0.out Tryd.underlying71 rfl SB.out ?_)
    | (with_reducible refine wpList_load_mid (op := ⟨some 11, _, _, _, _, _⟩) rfl 71 _ rfl PR 224 rfl (yvs (rkeyL T 14)).toList _ hK0.out Tryd.underlying71 rfl SK0.out ?_))
  refine (summed_any b (rkeyL T 14) _ HBL.out (rkeyL_length T HTL.out 14 (by omega))).mono ?_
  rintro e w2 ⟨rfl, hb2⟩
  have HS2 := Lib.hid (HS.out.below hb2)
  have L2 := Lib.hid (sumB_length b (rkeyL T 14) 16 HBL.out (rkeyL_length T HTL.out 14 (by omega)))
  clear hb2
  go_wp2_with fail
  refine (unturned_any (sumB b (rkeyL T 14)) _ L2.out).mono ?_
  rintro e w3 ⟨rfl, hb3⟩
  have HS3 := Lib.hid (HS2.out.below hb3)
  clear hb3
  go_wp2_with fail
  refine (unboxed_any (unturnB (sumB b (rkeyL T 14))) _ (unturnB_length _)).mono ?_
  rintro e w4 ⟨rfl, hb4⟩
  have HS4 := Lib.hid (HS3.out.below hb4)
  have hl0 := openN_length T b 0
  have S0 := Lib.hid (size_block (openN T b 0) hl0)
  have SE0 := Lib.hid (show (yvs b).size = (yvs (openN T b 0)).size by rw [yvs_size, yvs_size, hl0, HBL.out])
  have hB2 := Lib.hid HS4.out.blk
  clear hb4 hl0
  go_upto_region 3 with (first
    | (with_reducible refine wpList_store_row (o := ⟨none, .store _ (.tmp 3) _, _, _, _, _⟩) rfl 71 _ _ rfl (w.heap.size + 1) (yvs (openN T b 0)) rfl rfl 71 _ hB2.out S0.out SE0.out (yvs_one _) ?_))
  generalize hW5 : World.setRow _ (w.heap.size + 1) _ = W5
  have HS5 := Lib.hid (show SW w W5 PR (openN T b 0) T by rw [← hW5]; exact HS4.out.store _)
  clear hW5 HS HS2 HS3 HS4 hB2 hB0 hK0
  go_wp2_with fail
  go_loopw [6] (fun v6 wr => ∃ m n : Nat, m + n = 13 ∧ v6 = .int .i64 (m : Nat) ∧ SW w wr PR (openN T b n) T) (fun v _ => (intOf v).toNat)
  case atStart => exact ⟨13, 0, by omega, rfl, HS5.out⟩
  case round =>
    obtain ⟨m, n, hmn, rfl, hS⟩ := hrel
    by_cases hlt : 0 < m
    · obtain ⟨p, ep, hp⟩ : ∃ p : Nat, IntKind.i64.wrap ((m : Int) - 1) = (p : Int) ∧ m = p + 1 := ⟨m - 1, by rw [IntWalk.i64_in _ (by omega)]; omega, by omega⟩
      have HM := Lib.hid (And.intro hmn hp)
      have H7 := Lib.hid hS
      have LX := Lib.hid (openN_length T b n)
      obtain ⟨Y, hY⟩ : ∃ Y, openN T b (n + 1) = Y := ⟨_, rfl⟩   -- opaque: a letter is not reckoned out
      have LX1 := Lib.hid (show Y.length = 16 by rw [← hY]; exact openN_length T b (n + 1))
      have LK := Lib.hid (rkeyL_length T HTL.out m (by omega))
      have LS := Lib.hid (sumB_length (openN T b n) (rkeyL T m) 16 LX.out LK.out)
      have SX0 := Lib.hid (size_block _ LX.out)
      have SX1 := Lib.hid (size_block _ LX1.out)
      have SE1 := Lib.hid (show (yvs (openN T b n)).size = (yvs Y).size by rw [yvs_size, yvs_size, LX.out, LX1.out])
      have SKL := Lib.hid (size_rkey T HTL.out m (by omega))
      have HRG := Lib.hid (show ∀ W x, SW w W PR x T → W.rangeAt PR (m * 16) (yvs (rkeyL T m)).toList from fun W x h => by rw [Nat.mul_comm]; exact h.range m)
      have HUB := Lib.hid (show ∀ w, Calls Tryd.prog 39 #[.agg (yvs (unturnB (unmixB (sumB (openN T b n) (rkeyL T m)))))] w fun e w' => e = .returned (.agg (yvs Y)) ∧ Below w.heap.size w w' by
        intro w
        have h := unboxed_any (unturnB (unmixB (sumB (openN T b n) (rkeyL T m)))) w (unturnB_length _)
        rw [show unboxB (unturnB (unmixB (sumB (openN T b n) (rkeyL T m)))) = Y by rw [← hY, openN, show 13 - n = m by omega]] at h
        exact h)
      have m0 : (0 : Int) < (m : Int) := by omega
      have m1 : (m : Int) < 15 := by omega
      have HY := Lib.hid hY
      clear hmn hp hS hlt hY
      go_wp2_with fail
      refine wp_region_noPanic ?_
      refine wp_region_held_drew (S := fun w' => w'.rangeAt PR (m * 16) (yvs (rkeyL T m)).toList) (by kernel_rfl) (HRG.out _ _ H7.out.drew) (fun hHeld => ?_)
      refine wpAnyH_take (i := 1) (oi := ⟨some 20, _, _, _, _, _⟩) (v := ?_) rfl (by kernel_rfl) (by decide +kernel) (by decide +kernel) (fun _ _ _ h => h) (Or.inl ⟨by rfl, ?_⟩) (by assumption) ?_
      rotate_left 1
      · (intro w' hSw; go_simp; try with_reducible rfl)
      try simp only [Act.put, List.setIfInBounds_toArray, List.set_cons_zero, List.set_cons_succ]
      refine wpAnyH_take (i := 2) (oi := ⟨some 21, _, _, _, _, _⟩) (v := ?_) rfl (by kernel_rfl) (by decide +kernel) (by decide +kernel) (fun _ _ _ h => h) (Or.inl ⟨by rfl, ?_⟩) (by assumption) ?_
      rotate_left 1
      · (intro w' hSw; go_simp; try with_reducible rfl)
      try simp only [Act.put, List.setIfInBounds_toArray, List.set_cons_zero, List.set_cons_succ]
      refine wpAnyH_take (i := 3) (oi := ⟨some 22, _, _, _, _, _⟩) rfl (by kernel_rfl) (by decide +kernel) (by decide +kernel) (fun _ _ _ h => h) (yieldsIf_load_mid (by rfl) _ _ rfl (PR) (m * 16) rfl (yvs (rkeyL T m)).toList _ (fun w' h => h) Tryd.underlying71 rfl SKL.out) (by assumption) ?_
      try simp only [Act.put, List.setIfInBounds_toArray, List.set_cons_zero, List.set_cons_succ, Array.toArray_toList]
      clear hHeld
      refine wpAnyH_ready (rs := [0]) (by decide +kernel) (by simp) ?_
      refine AllReadyH.cons rfl (fun K hK => ?_) AllReadyH.nil
      rw [if_pos (by kernel_rfl)]
      refine wp_load_row (o := ⟨some 19, _, _, _, _, _⟩) 71 _ rfl (w.heap.size + 1) rfl 71 (yvs (openN T b n)) (0, 0) _ (H7.out.drew.blk) Tryd.underlying71 rfl (SX0.out) ?_
      refine hK.out _ _ (HRG.out _ _ H7.out.drew) (fun hHeld => ?_)
      clear hK K hHeld
      try simp only [Act.put, List.setIfInBounds_toArray, List.set_cons_zero, List.set_cons_succ]
      refine wpAnyH_ready (rs := [4]) (by decide +kernel) (by simp) ?_
      refine AllReadyH.cons rfl (fun K hK => ?_) AllReadyH.nil
      go_simp
      go_at_call 41
      refine (summed_any (openN T b n) (rkeyL T m) _ LX.out LK.out).mono ?_
      rintro e w8 ⟨rfl, hb⟩
      have X8 := Lib.hid (H7.out.drew.below hb)
      clear hb
      go_wp2_with fail
      refine hK.out _ _ (HRG.out _ _ X8.out) (fun hHeld => ?_)
      clear hK K hHeld
      try simp only [Act.put, List.setIfInBounds_toArray, List.set_cons_zero, List.set_cons_succ]
      refine wpAnyH_ready (rs := [5]) (by decide +kernel) (by simp) ?_
      refine AllReadyH.cons rfl (fun K hK => ?_) AllReadyH.nil
      go_simp
      go_at_call 42
      refine (unmixed_any (sumB (openN T b n) (rkeyL T m)) _ LS.out).mono ?_
      rintro e w9 ⟨rfl, hb⟩
      have X9 := Lib.hid (X8.out.below hb)
      clear hb
      go_wp2_with fail
      refine hK.out _ _ (HRG.out _ _ X9.out) (fun hHeld => ?_)
      clear hK K hHeld
      try simp only [Act.put, List.setIfInBounds_toArray, List.set_cons_zero, List.set_cons_succ]
      refine wpAnyH_ready (rs := [6]) (by decide +kernel) (by simp) ?_
      refine AllReadyH.cons rfl (fun K hK => ?_) AllReadyH.nil
      go_simp
      go_at_call 40
      refine (unturned_any (unmixB (sumB (openN T b n) (rkeyL T m))) _ (unmixB_length _)).mono ?_
      rintro e w10 ⟨rfl, hb⟩
      have X10 := Lib.hid (X9.out.below hb)
      clear hb
      go_wp2_with fail
      refine hK.out _ _ (HRG.out _ _ X10.out) (fun hHeld => ?_)
      clear hK K hHeld
      try simp only [Act.put, List.setIfInBounds_toArray, List.set_cons_zero, List.set_cons_succ]
      refine wpAnyH_ready (rs := [7]) (by decide +kernel) (by simp) ?_
      refine AllReadyH.cons rfl (fun K hK => ?_) AllReadyH.nil
      go_simp
      go_at_call 39
      refine (HUB.out _).mono ?_
      rintro e w12 ⟨rfl, hb⟩
      have X12 := Lib.hid (X10.out.below hb)
      clear hb
      go_wp2_with fail
      refine hK.out _ _ (HRG.out _ _ X12.out) (fun hHeld => ?_)
      clear hK K hHeld
      try simp only [Act.put, List.setIfInBounds_toArray, List.set_cons_zero, List.set_cons_succ]
      refine wpAnyH_ready (rs := [8]) (by decide +kernel) (by simp) ?_
      refine AllReadyH.cons get8 (fun K hK => ?_) AllReadyH.nil
      rw [if_pos (by kernel_rfl)]
      refine wp_store_row (o := ⟨none, .store _ (.tmp 3) _, _, _, _, _⟩) 71 _ _ rfl (w.heap.size + 1) (yvs (Y)) rfl rfl 71 _ (X12.out.blk) (SX1.out) (SE1.out) (yvs_one _) ?_
      refine hK.out _ _ (HRG.out _ _ (X12.out.store _)) (fun hHeld => ?_)
      clear hK K hHeld
      simp only [Act.put]
      refine wpAnyH_done (by decide +kernel) ?_ _
      refine NoPanic.normal ?_
      go_wp2_with fail
      go_roundw
      case rel => exact ⟨p, n + 1, by have := HM.out; omega, by go_num, by rw [HY.out]; exact X12.out.store _⟩
      case measure => simp [intOf]; have := HM.out; omega
    · have HI := Lib.hid (show n = 13 by omega)
      have hle : (m : Int) ≤ 0 := by omega
      have H13 := Lib.hid (show SW w wr PR (openN T b 13) T by rw [← HI.out]; exact hS)
      have LX := Lib.hid (openN_length T b 13)
      have LK := Lib.hid (rkeyL_length T HTL.out 0 (by omega))
      have LF := Lib.hid (openB_length T b HTL.out)
      have SX0 := Lib.hid (size_block _ LX.out)
      have SXF := Lib.hid (size_block _ LF.out)
      have SE1 := Lib.hid (show (yvs (zeroY 16)).size = (yvs (openB T b)).size by rw [yvs_size, yvs_size, LF.out]; simp [zeroY])
      have SKL := Lib.hid (size_rkey T HTL.out 0 (by omega))
      have HK0 := Lib.hid (show wr.rangeAt PR 0 (yvs (rkeyL T 0)).toList from H13.out.range 0)
      have HB0 := Lib.hid H13.out.blk
      clear hS hlt hmn
      go_wp2_with (first
        | (with_reducible refine wpList_load_row (o := ⟨some 27, _, _, _, _, _⟩) rfl 71 _ rfl (w.heap.size + 1) rfl 71 (yvs (openN T b 13)) (0, 0) _ HB0.out Tryd.underlying71 rfl SX0.out ?_)
        | (with_reducible refine wpList_load_mid (op := ⟨some 29, _, _, _, _, _⟩) rfl 71 _ rfl PR 0 rfl (yvs (rkeyL T 0)).toList _ HK0.out Tryd.underlying71 rfl SKL.out ?_))
      refine (summed_any (openN T b 13) (rkeyL T 0) _ LX.out LK.out).mono ?_
      rintro e w2 ⟨rfl, hb2⟩
      have H14 := Lib.hid (H13.out.below hb2)
      have HR14 := Lib.hid H14.out.ret
      clear hb2
      go_wp2_with (first
        | (with_reducible refine wpList_store_row (o := ⟨none, .store _ (.tmp 4) _, _, _, _, _⟩) rfl 71 _ _ rfl (w.heap.size + 1 + 1) (yvs (openB T b)) rfl rfl 71 _ HR14.out SXF.out SE1.out (yvs_one _) ?_))
      refine bodyPost_ret (v := .agg (yvs (openB T b))) (results_cell_row Tryd.results25 _ _ (w.heap.size + 1 + 1) 71 (yvs (openB T b)) (0, 0) _ rfl (setRow_heap _ (w.heap.size + 1 + 1) _ (yvs (openB T b)) _ _ HR14.out) Tryd.underlying71 rfl SXF.out) rfl ⟨rfl, ?_⟩
      exact ybelow_row H14.out.bel (by omega) _
end Go.Proofs.YtfgdddejpdjllaaDoor
