/-
  'AesBack' returns true at every input, and each argument reads behind the call as it read before. Conditions: none.
-/
import Derived.Test.YtnflbagplljjlaaRows
import Derived.Test.YtnflbagplljjlaaYLaid
import Derived.Test.YtnflbagplljjlaaYAlive
import Derived.Deep.DeepCutAuto
namespace Go.Proofs.Ytnflbagplljjlaa.aesBack
open Go.ChangeShapes Go.WideShapes Go.ChangeAt Go.RowKit
set_option linter.unusedVariables false

theorem get8of10 {α : Type} {a0 a1 a2 a3 a4 a5 a6 a7 a8 a9 : α} : (#[a0, a1, a2, a3, a4, a5, a6, a7, a8, a9] : Array α)[8]? = some a8 := rfl
theorem get9of10 {α : Type} {a0 a1 a2 a3 a4 a5 a6 a7 a8 a9 : α} : (#[a0, a1, a2, a3, a4, a5, a6, a7, a8, a9] : Array α)[9]? = some a9 := rfl
theorem ylt {w : World} {g t : Nat} {l : List (BitVec 8)} (h : ArrY w g t l) : g < w.heap.size := Nat.lt_of_not_le fun e => by
  unfold ArrY at h
  rw [Array.getElem?_eq_none e] at h
  cases h
theorem info_k26 : (Try.prog.info? 26).map (·.size) = some 32 := by kernel_rfl
theorem info_b27 : (Try.prog.info? 27).map (·.size) = some 16 := by kernel_rfl

set_option maxRecDepth 100000 in
set_option maxHeartbeats 3200000 in
theorem walk (x0 : List (BitVec 8)) (hx0 : x0.length = 32) (x1 : List (BitVec 8)) (hx1 : x1.length = 16) (x2 : List (BitVec 8)) (hx2 : x2.length = 16) (w : World) :
    Calls Try.prog 5 #[.agg (yvs x0), .agg (yvs x1), .agg (yvs x2)] w fun e w' => e = .returned (.bool true) ∧ Below w.heap.size w w' := by
  have hsa := fun w => seal_any x0 x1 w hx0 hx1
  have hsb := fun w => seal_any x0 x2 w hx0 hx2
  have hTL := keysL_length x0 hx0
  have hox := fun w => open_any x0 (sealB (keysL x0) x1) w hx0 (sealB_length _ _ hTL)
  rw [open_seal _ _ hTL hx1] at hox
  have hoa := fun w => open_any x0 x1 w hx0 hx1
  have hso := fun w => seal_any x0 (openB (keysL x0) x1) w hx0 (openB_length _ _ hTL)
  rw [seal_open _ _ hTL hx1] at hso
  have lsa := sealB_length (keysL x0) x1 hTL
  have lsb := sealB_length (keysL x0) x2 hTL
  obtain ⟨d, hd⟩ : ∃ d, decide (x1 = x2) = d := ⟨_, rfl⟩
  have hqx := fun w => eq_block (sealB (keysL x0) x1) (sealB (keysL x0) x2) lsa lsb w
  rw [show decide (sealB (keysL x0) x1 = sealB (keysL x0) x2) = d by rw [← hd]; exact decide_eq_decide.2 (seal_inj _ _ _ hTL hx1 hx2)] at hqx
  have hqb := fun w => eq_block16 x1 x2 hx1 hx2 w
  rw [hd] at hqb
  generalize sealB (keysL x0) x1 = SA at *
  generalize sealB (keysL x0) x2 = SB at *
  generalize openB (keysL x0) x1 = OA at *
  have HSA := Lib.hid hsa
  have HSB := Lib.hid hsb
  have HOX := Lib.hid hox
  have HOA := Lib.hid hoa
  have HSO := Lib.hid hso
  have HQX := Lib.hid hqx
  have HQB := Lib.hid hqb
  have HQA := Lib.hid (show ∀ w, (Op.equalIn 10000 30 (.agg (yvs x1)) (.agg (yvs x1))).run Try.prog w = .ok true w from fun w => by rw [eq_block x1 x1 hx1 hx1]; simp)
  have ISA := Lib.hid (show (Try.prog.info? 30).map (·.size) = some (yvs SA).toList.length by rw [Array.length_toList]; exact size_block _ lsa)
  have ISB := Lib.hid (show (Try.prog.info? 30).map (·.size) = some (yvs SB).toList.length by rw [Array.length_toList]; exact size_block _ lsb)
  have ESA := Lib.hid (show (yvs (zeroY 16)).size = (yvs SA).size by rw [yvs_size, yvs_size, lsa]; simp [zeroY])
  have ESB := Lib.hid (show (yvs (zeroY 16)).size = (yvs SB).size by rw [yvs_size, yvs_size, lsb]; simp [zeroY])
  have IK := Lib.hid (show (Try.prog.info? 26).map (·.size) = some (yvs x0).toList.length by rw [Array.length_toList, yvs_size, hx0]; exact info_k26)
  have IA := Lib.hid (show (Try.prog.info? 27).map (·.size) = some (yvs x1).toList.length by rw [Array.length_toList, yvs_size, hx1]; exact info_b27)
  have IB := Lib.hid (show (Try.prog.info? 27).map (·.size) = some (yvs x2).toList.length by rw [Array.length_toList, yvs_size, hx2]; exact info_b27)
  clear hsa hsb hox hoa hso hqx hqb hd lsa lsb hTL hx0 hx1 hx2
  go_enter Try.func5, Try.ntmps5
  go_wp2_with fail
  obtain ⟨h0, h1, h2, hsz, hbel⟩ := ythree w (.cells (yvs x0) 26) (.cells (yvs x1) 27) (.cells (yvs x2) 27)
  generalize ((w.alloc (.cells (yvs x0) 26)).alloc (.cells (yvs x1) 27)).alloc (.cells (yvs x2) 27) = W0 at *
  refine (alive4_any _).mono ?_
  rintro e W3 ⟨rfl, hb3⟩
  rw [hsz] at hb3
  have HBW := Lib.hid (hbel.trans (hb3.mono (by omega)))
  have HZW := Lib.hid (show w.heap.size ≤ W3.heap.size from HBW.out.size)
  have HS := Lib.hid (show ∀ W, Below W3.heap.size W3 W → W.rangeAt w.heap.size 0 (yvs x0).toList ∧ W.rangeAt (w.heap.size + 1) 0 (yvs x1).toList ∧ W.rangeAt (w.heap.size + 1 + 1) 0 (yvs x2).toList from fun W hW => by
    have z3 : w.heap.size + 3 ≤ W3.heap.size := by rw [← hsz]; exact hb3.size
    exact ⟨ArrY.all (t := 26) (((show ArrY W0 _ _ _ from h0).below hb3 (by omega)).below hW (by omega)), ArrY.all (t := 27) (((show ArrY W0 _ _ _ from h1).below hb3 (by omega)).below hW (by omega)), ArrY.all (t := 27) (((show ArrY W0 _ _ _ from h2).below hb3 (by omega)).below hW (by omega))⟩)
  clear h0 h1 h2 hsz hbel hb3
  go_upto_region 3 with (fail)
  go_cut [7, 8] (fun v7 v8 wr => ∃ X Y, v7 = .pointer (some ⟨X, 0, none⟩) ∧ v8 = .pointer (some ⟨Y, 0, none⟩) ∧ ArrY wr X 30 SA ∧ ArrY wr Y 30 SB ∧ Below W3.heap.size W3 wr)
  case first =>
    refine wp_region_noPanic ?_
    refine wp_region_held_drew (S := fun w' => w'.rangeAt w.heap.size 0 (yvs x0).toList ∧ w'.rangeAt (w.heap.size + 1) 0 (yvs x1).toList ∧ w'.rangeAt (w.heap.size + 1 + 1) 0 (yvs x2).toList) (by kernel_rfl) (HS.out _ (Below.refl _ W3).drew) (fun hHeld => ?_)
    refine wpAnyH_take (i := 0) (oi := ⟨some 11, _, _, _, _, _⟩) rfl (by kernel_rfl) (by decide +kernel) (by decide +kernel) (fun _ _ _ h => h) (yieldsIf_load_mid (by rfl) _ _ rfl (w.heap.size) 0 rfl (yvs x0).toList _ (fun w' h => h.1) Try.underlying26 rfl IK.out) (by assumption) ?_
    try simp only [Act.put, List.setIfInBounds_toArray, List.set_cons_zero, List.set_cons_succ, Array.toArray_toList]
    refine wpAnyH_take (i := 1) (oi := ⟨some 12, _, _, _, _, _⟩) rfl (by kernel_rfl) (by decide +kernel) (by decide +kernel) (fun _ _ _ h => h) (yieldsIf_load_mid (by rfl) _ _ rfl (w.heap.size + 1) 0 rfl (yvs x1).toList _ (fun w' h => h.2.1) Try.underlying27 rfl IA.out) (by assumption) ?_
    try simp only [Act.put, List.setIfInBounds_toArray, List.set_cons_zero, List.set_cons_succ, Array.toArray_toList]
    refine wpAnyH_take (i := 3) (oi := ⟨some 14, _, _, _, _, _⟩) rfl (by kernel_rfl) (by decide +kernel) (by decide +kernel) (fun _ _ _ h => h) (yieldsIf_load_mid (by rfl) _ _ rfl (w.heap.size) 0 rfl (yvs x0).toList _ (fun w' h => h.1) Try.underlying26 rfl IK.out) (by assumption) ?_
    try simp only [Act.put, List.setIfInBounds_toArray, List.set_cons_zero, List.set_cons_succ, Array.toArray_toList]
    refine wpAnyH_take (i := 4) (oi := ⟨some 15, _, _, _, _, _⟩) rfl (by kernel_rfl) (by decide +kernel) (by decide +kernel) (fun _ _ _ h => h) (yieldsIf_load_mid (by rfl) _ _ rfl (w.heap.size + 1 + 1) 0 rfl (yvs x2).toList _ (fun w' h => h.2.2) Try.underlying27 rfl IB.out) (by assumption) ?_
    try simp only [Act.put, List.setIfInBounds_toArray, List.set_cons_zero, List.set_cons_succ, Array.toArray_toList]
    clear hHeld
    have HB0 := Lib.hid (Below.refl W3.heap.size W3).drew
    refine wpAnyH_ready (rs := [2, 6, 7]) (by decide +kernel) (by simp) ?_
    refine AllReadyH.cons rfl (fun K hK => ?_) (AllReadyH.cons rfl (fun K hK => ?_) (AllReadyH.cons rfl (fun K hK => ?_) AllReadyH.nil))
    · go_simp
      go_at_call 19
      refine (HSA.out _).mono ?_
      rintro e wt1 ⟨rfl, hb⟩
      have HB1 := Lib.hid (HB0.out.trans (hb.mono HB0.out.size))
      clear hb
      go_wp2_with fail
      refine hK.out _ _ (HS.out _ HB1.out) (fun hHeld => ?_)
      clear hK K hHeld
      try simp only [Act.put, List.setIfInBounds_toArray, List.set_cons_zero, List.set_cons_succ]
      refine wpAnyH_ready (rs := [5, 6, 7]) (by decide +kernel) (by simp) ?_
      refine AllReadyH.cons rfl (fun K hK => ?_) (AllReadyH.cons rfl (fun K hK => ?_) (AllReadyH.cons rfl (fun K hK => ?_) AllReadyH.nil))
      · go_simp
        go_at_call 19
        refine (HSB.out _).mono ?_
        rintro e wt2 ⟨rfl, hb⟩
        have HB2 := Lib.hid (HB1.out.trans (hb.mono HB1.out.size))
        clear hb
        go_wp2_with fail
        refine hK.out _ _ (HS.out _ HB2.out) (fun hHeld => ?_)
        clear hK K hHeld
        try simp only [Act.put, List.setIfInBounds_toArray, List.set_cons_zero, List.set_cons_succ]
        refine wpAnyH_ready (rs := [6, 7]) (by decide +kernel) (by simp) ?_
        refine AllReadyH.cons rfl (fun K hK => ?_) (AllReadyH.cons rfl (fun K hK => ?_) AllReadyH.nil)
        · go_simp
          have hal := HB2.out.alloc HB2.out.size (.cells (yvs (zeroY 16)) 30)
          have hxl := heap_alloc_new wt2 (.cells (yvs (zeroY 16)) 30)
          have hst := (Below.refl wt2.heap.size wt2).alloc (Nat.le_refl _) (.cells (yvs (zeroY 16)) 30)
          refine hK.out _ _ (HS.out _ hal) (fun hHeld => ?_)
          clear hK K hHeld
          try simp only [Act.put, List.setIfInBounds_toArray, List.set_cons_zero, List.set_cons_succ]
          refine (show ∀ wb3 : World, wb3 = wt2.alloc (.cells (yvs (zeroY 16)) 30) → _ from ?_) _ rfl
          intro wb3 ew
          rw [← ew] at hal hxl hst
          have HB3 := Lib.hid hal
          have HX3 := Lib.hid (show ArrY wb3 wt2.heap.size 30 (zeroY 16) from hxl)
          have HNX3 := Lib.hid HB2.out.size
          clear ew hal hxl hst
          refine wpAnyH_ready (rs := [7]) (by decide +kernel) (by simp) ?_
          refine AllReadyH.cons rfl (fun K hK => ?_) AllReadyH.nil
          go_simp
          have hal := HB3.out.alloc HB3.out.size (.cells (yvs (zeroY 16)) 30)
          have hxl := heap_alloc_new wb3 (.cells (yvs (zeroY 16)) 30)
          have hst := (Below.refl wb3.heap.size wb3).alloc (Nat.le_refl _) (.cells (yvs (zeroY 16)) 30)
          refine hK.out _ _ (HS.out _ hal) (fun hHeld => ?_)
          clear hK K hHeld
          try simp only [Act.put, List.setIfInBounds_toArray, List.set_cons_zero, List.set_cons_succ]
          refine (show ∀ wb4 : World, wb4 = wb3.alloc (.cells (yvs (zeroY 16)) 30) → _ from ?_) _ rfl
          intro wb4 ew
          rw [← ew] at hal hxl hst
          have HB4 := Lib.hid hal
          have HY4 := Lib.hid (show ArrY wb4 wb3.heap.size 30 (zeroY 16) from hxl)
          have HNY4 := Lib.hid HB3.out.size
          have HX4 := Lib.hid (HX3.out.below hst (ylt HX3.out))
          have NE4 := Lib.hid (show wt2.heap.size ≠ wb3.heap.size from Nat.ne_of_lt (ylt HX3.out))
          clear ew hal hxl hst
          refine wpAnyH_ready (rs := [8]) (by decide +kernel) (by simp) ?_
          refine AllReadyH.cons get8of10 (fun K hK => ?_) AllReadyH.nil
          rw [if_pos (by kernel_rfl)]
          refine wp_store_row (o := ⟨none, .store _ (.tmp 7) _, _, _, _, _⟩) 30 _ _ rfl (wt2.heap.size) (yvs SA) rfl rfl 30 (yvs (zeroY 16)) (show wb4.heap[wt2.heap.size]? = _ from HX4.out) ISA.out ESA.out (yvs_one _) ?_
          refine hK.out _ _ (HS.out _ (ybelow_row HB4.out HNX3.out _)) (fun hHeld => ?_)
          clear hK K hHeld
          simp only [Act.put]
          refine wpAnyH_ready (rs := [9]) (by decide +kernel) (by simp) ?_
          refine AllReadyH.cons get9of10 (fun K hK => ?_) AllReadyH.nil
          rw [if_pos (by kernel_rfl)]
          refine wp_store_row (o := ⟨none, .store _ (.tmp 8) _, _, _, _, _⟩) 30 _ _ rfl (wb3.heap.size) (yvs SB) rfl rfl 30 (yvs (zeroY 16)) (show (wb4.setRow wt2.heap.size (yvs SA)).heap[wb3.heap.size]? = _ from ((setRow_other _ _ _ _ (Ne.symm NE4.out)).trans HY4.out)) ISB.out ESB.out (yvs_one _) ?_
          refine hK.out _ _ (HS.out _ (ybelow_row (ybelow_row HB4.out HNX3.out (yvs SA)) HNY4.out _)) (fun hHeld => ?_)
          clear hK K hHeld
          simp only [Act.put]
          refine wpAnyH_done (by decide +kernel) ?_ _
          refine NoPanic.normal ?_
          go_wp2_with fail
          go_meet
          exact ⟨wt2.heap.size, wb3.heap.size, rfl, rfl, (setRow_other _ _ _ _ NE4.out).trans (setRow_heap _ _ _ _ _ _ HX4.out), setRow_heap _ _ _ _ _ _ ((setRow_other _ _ _ _ (Ne.symm NE4.out)).trans HY4.out), ybelow_row (ybelow_row HB4.out HNX3.out _) HNY4.out _⟩
        · go_simp
          have hal := HB2.out.alloc HB2.out.size (.cells (yvs (zeroY 16)) 30)
          have hxl := heap_alloc_new wt2 (.cells (yvs (zeroY 16)) 30)
          have hst := (Below.refl wt2.heap.size wt2).alloc (Nat.le_refl _) (.cells (yvs (zeroY 16)) 30)
          refine hK.out _ _ (HS.out _ hal) (fun hHeld => ?_)
          clear hK K hHeld
          try simp only [Act.put, List.setIfInBounds_toArray, List.set_cons_zero, List.set_cons_succ]
          refine (show ∀ wb5 : World, wb5 = wt2.alloc (.cells (yvs (zeroY 16)) 30) → _ from ?_) _ rfl
          intro wb5 ew
          rw [← ew] at hal hxl hst
          have HB5 := Lib.hid hal
          have HY5 := Lib.hid (show ArrY wb5 wt2.heap.size 30 (zeroY 16) from hxl)
          have HNY5 := Lib.hid HB2.out.size
          clear ew hal hxl hst
          refine wpAnyH_ready (rs := [6]) (by decide +kernel) (by simp) ?_
          refine AllReadyH.cons rfl (fun K hK => ?_) AllReadyH.nil
          go_simp
          have hal := HB5.out.alloc HB5.out.size (.cells (yvs (zeroY 16)) 30)
          have hxl := heap_alloc_new wb5 (.cells (yvs (zeroY 16)) 30)
          have hst := (Below.refl wb5.heap.size wb5).alloc (Nat.le_refl _) (.cells (yvs (zeroY 16)) 30)
          refine hK.out _ _ (HS.out _ hal) (fun hHeld => ?_)
          clear hK K hHeld
          try simp only [Act.put, List.setIfInBounds_toArray, List.set_cons_zero, List.set_cons_succ]
          refine (show ∀ wb6 : World, wb6 = wb5.alloc (.cells (yvs (zeroY 16)) 30) → _ from ?_) _ rfl
          intro wb6 ew
          rw [← ew] at hal hxl hst
          have HB6 := Lib.hid hal
          have HX6 := Lib.hid (show ArrY wb6 wb5.heap.size 30 (zeroY 16) from hxl)
          have HNX6 := Lib.hid HB5.out.size
          have HY6 := Lib.hid (HY5.out.below hst (ylt HY5.out))
          have NE6 := Lib.hid (show wt2.heap.size ≠ wb5.heap.size from Nat.ne_of_lt (ylt HY5.out))
          clear ew hal hxl hst
          refine wpAnyH_ready (rs := [8]) (by decide +kernel) (by simp) ?_
          refine AllReadyH.cons get8of10 (fun K hK => ?_) AllReadyH.nil
          rw [if_pos (by kernel_rfl)]
          refine wp_store_row (o := ⟨none, .store _ (.tmp 7) _, _, _, _, _⟩) 30 _ _ rfl (wb5.heap.size) (yvs SA) rfl rfl 30 (yvs (zeroY 16)) (show wb6.heap[wb5.heap.size]? = _ from HX6.out) ISA.out ESA.out (yvs_one _) ?_
          refine hK.out _ _ (HS.out _ (ybelow_row HB6.out HNX6.out _)) (fun hHeld => ?_)
          clear hK K hHeld
          simp only [Act.put]
          refine wpAnyH_ready (rs := [9]) (by decide +kernel) (by simp) ?_
          refine AllReadyH.cons get9of10 (fun K hK => ?_) AllReadyH.nil
          rw [if_pos (by kernel_rfl)]
          refine wp_store_row (o := ⟨none, .store _ (.tmp 8) _, _, _, _, _⟩) 30 _ _ rfl (wt2.heap.size) (yvs SB) rfl rfl 30 (yvs (zeroY 16)) (show (wb6.setRow wb5.heap.size (yvs SA)).heap[wt2.heap.size]? = _ from ((setRow_other _ _ _ _ (Ne.symm (Ne.symm NE6.out))).trans HY6.out)) ISB.out ESB.out (yvs_one _) ?_
          refine hK.out _ _ (HS.out _ (ybelow_row (ybelow_row HB6.out HNX6.out (yvs SA)) HNY5.out _)) (fun hHeld => ?_)
          clear hK K hHeld
          simp only [Act.put]
          refine wpAnyH_done (by decide +kernel) ?_ _
          refine NoPanic.normal ?_
          go_wp2_with fail
          go_meet
          exact ⟨wb5.heap.size, wt2.heap.size, rfl, rfl, (setRow_other _ _ _ _ (Ne.symm NE6.out)).trans (setRow_heap _ _ _ _ _ _ HX6.out), setRow_heap _ _ _ _ _ _ ((setRow_other _ _ _ _ (Ne.symm (Ne.symm NE6.out))).trans HY6.out), ybelow_row (ybelow_row HB6.out HNX6.out _) HNY5.out _⟩
      · go_simp
        have hal := HB1.out.alloc HB1.out.size (.cells (yvs (zeroY 16)) 30)
        have hxl := heap_alloc_new wt1 (.cells (yvs (zeroY 16)) 30)
        have hst := (Below.refl wt1.heap.size wt1).alloc (Nat.le_refl _) (.cells (yvs (zeroY 16)) 30)
        refine hK.out _ _ (HS.out _ hal) (fun hHeld => ?_)
        clear hK K hHeld
        try simp only [Act.put, List.setIfInBounds_toArray, List.set_cons_zero, List.set_cons_succ]
        refine (show ∀ wb7 : World, wb7 = wt1.alloc (.cells (yvs (zeroY 16)) 30) → _ from ?_) _ rfl
        intro wb7 ew
        rw [← ew] at hal hxl hst
        have HB7 := Lib.hid hal
        have HX7 := Lib.hid (show ArrY wb7 wt1.heap.size 30 (zeroY 16) from hxl)
        have HNX7 := Lib.hid HB1.out.size
        clear ew hal hxl hst
        refine wpAnyH_ready (rs := [5, 7]) (by decide +kernel) (by simp) ?_
        refine AllReadyH.cons rfl (fun K hK => ?_) (AllReadyH.cons rfl (fun K hK => ?_) AllReadyH.nil)
        · go_simp
          go_at_call 19
          refine (HSB.out _).mono ?_
          rintro e wt8 ⟨rfl, hb⟩
          have HB8 := Lib.hid (HB7.out.trans (hb.mono HB7.out.size))
          have HX8 := Lib.hid (HX7.out.below hb (ylt HX7.out))
          clear hb
          go_wp2_with fail
          refine hK.out _ _ (HS.out _ HB8.out) (fun hHeld => ?_)
          clear hK K hHeld
          try simp only [Act.put, List.setIfInBounds_toArray, List.set_cons_zero, List.set_cons_succ]
          refine wpAnyH_ready (rs := [7]) (by decide +kernel) (by simp) ?_
          refine AllReadyH.cons rfl (fun K hK => ?_) AllReadyH.nil
          go_simp
          have hal := HB8.out.alloc HB8.out.size (.cells (yvs (zeroY 16)) 30)
          have hxl := heap_alloc_new wt8 (.cells (yvs (zeroY 16)) 30)
          have hst := (Below.refl wt8.heap.size wt8).alloc (Nat.le_refl _) (.cells (yvs (zeroY 16)) 30)
          refine hK.out _ _ (HS.out _ hal) (fun hHeld => ?_)
          clear hK K hHeld
          try simp only [Act.put, List.setIfInBounds_toArray, List.set_cons_zero, List.set_cons_succ]
          refine (show ∀ wb9 : World, wb9 = wt8.alloc (.cells (yvs (zeroY 16)) 30) → _ from ?_) _ rfl
          intro wb9 ew
          rw [← ew] at hal hxl hst
          have HB9 := Lib.hid hal
          have HY9 := Lib.hid (show ArrY wb9 wt8.heap.size 30 (zeroY 16) from hxl)
          have HNY9 := Lib.hid HB8.out.size
          have HX9 := Lib.hid (HX8.out.below hst (ylt HX8.out))
          have NE9 := Lib.hid (show wt1.heap.size ≠ wt8.heap.size from Nat.ne_of_lt (ylt HX8.out))
          clear ew hal hxl hst
          refine wpAnyH_ready (rs := [8]) (by decide +kernel) (by simp) ?_
          refine AllReadyH.cons get8of10 (fun K hK => ?_) AllReadyH.nil
          rw [if_pos (by kernel_rfl)]
          refine wp_store_row (o := ⟨none, .store _ (.tmp 7) _, _, _, _, _⟩) 30 _ _ rfl (wt1.heap.size) (yvs SA) rfl rfl 30 (yvs (zeroY 16)) (show wb9.heap[wt1.heap.size]? = _ from HX9.out) ISA.out ESA.out (yvs_one _) ?_
          refine hK.out _ _ (HS.out _ (ybelow_row HB9.out HNX7.out _)) (fun hHeld => ?_)
          clear hK K hHeld
          simp only [Act.put]
          refine wpAnyH_ready (rs := [9]) (by decide +kernel) (by simp) ?_
          refine AllReadyH.cons get9of10 (fun K hK => ?_) AllReadyH.nil
          rw [if_pos (by kernel_rfl)]
          refine wp_store_row (o := ⟨none, .store _ (.tmp 8) _, _, _, _, _⟩) 30 _ _ rfl (wt8.heap.size) (yvs SB) rfl rfl 30 (yvs (zeroY 16)) (show (wb9.setRow wt1.heap.size (yvs SA)).heap[wt8.heap.size]? = _ from ((setRow_other _ _ _ _ (Ne.symm NE9.out)).trans HY9.out)) ISB.out ESB.out (yvs_one _) ?_
          refine hK.out _ _ (HS.out _ (ybelow_row (ybelow_row HB9.out HNX7.out (yvs SA)) HNY9.out _)) (fun hHeld => ?_)
          clear hK K hHeld
          simp only [Act.put]
          refine wpAnyH_done (by decide +kernel) ?_ _
          refine NoPanic.normal ?_
          go_wp2_with fail
          go_meet
          exact ⟨wt1.heap.size, wt8.heap.size, rfl, rfl, (setRow_other _ _ _ _ NE9.out).trans (setRow_heap _ _ _ _ _ _ HX9.out), setRow_heap _ _ _ _ _ _ ((setRow_other _ _ _ _ (Ne.symm NE9.out)).trans HY9.out), ybelow_row (ybelow_row HB9.out HNX7.out _) HNY9.out _⟩
        · go_simp
          have hal := HB7.out.alloc HB7.out.size (.cells (yvs (zeroY 16)) 30)
          have hxl := heap_alloc_new wb7 (.cells (yvs (zeroY 16)) 30)
          have hst := (Below.refl wb7.heap.size wb7).alloc (Nat.le_refl _) (.cells (yvs (zeroY 16)) 30)
          refine hK.out _ _ (HS.out _ hal) (fun hHeld => ?_)
          clear hK K hHeld
          try simp only [Act.put, List.setIfInBounds_toArray, List.set_cons_zero, List.set_cons_succ]
          refine (show ∀ wb10 : World, wb10 = wb7.alloc (.cells (yvs (zeroY 16)) 30) → _ from ?_) _ rfl
          intro wb10 ew
          rw [← ew] at hal hxl hst
          have HB10 := Lib.hid hal
          have HY10 := Lib.hid (show ArrY wb10 wb7.heap.size 30 (zeroY 16) from hxl)
          have HNY10 := Lib.hid HB7.out.size
          have HX10 := Lib.hid (HX7.out.below hst (ylt HX7.out))
          have NE10 := Lib.hid (show wt1.heap.size ≠ wb7.heap.size from Nat.ne_of_lt (ylt HX7.out))
          clear ew hal hxl hst
          refine wpAnyH_ready (rs := [5]) (by decide +kernel) (by simp) ?_
          refine AllReadyH.cons rfl (fun K hK => ?_) AllReadyH.nil
          go_simp
          go_at_call 19
          refine (HSB.out _).mono ?_
          rintro e wt11 ⟨rfl, hb⟩
          have HB11 := Lib.hid (HB10.out.trans (hb.mono HB10.out.size))
          have HX11 := Lib.hid (HX10.out.below hb (ylt HX10.out))
          have HY11 := Lib.hid (HY10.out.below hb (ylt HY10.out))
          clear hb
          go_wp2_with fail
          refine hK.out _ _ (HS.out _ HB11.out) (fun hHeld => ?_)
          clear hK K hHeld
          try simp only [Act.put, List.setIfInBounds_toArray, List.set_cons_zero, List.set_cons_succ]
          refine wpAnyH_ready (rs := [8]) (by decide +kernel) (by simp) ?_
          refine AllReadyH.cons get8of10 (fun K hK => ?_) AllReadyH.nil
          rw [if_pos (by kernel_rfl)]
          refine wp_store_row (o := ⟨none, .store _ (.tmp 7) _, _, _, _, _⟩) 30 _ _ rfl (wt1.heap.size) (yvs SA) rfl rfl 30 (yvs (zeroY 16)) (show wt11.heap[wt1.heap.size]? = _ from HX11.out) ISA.out ESA.out (yvs_one _) ?_
          refine hK.out _ _ (HS.out _ (ybelow_row HB11.out HNX7.out _)) (fun hHeld => ?_)
          clear hK K hHeld
          simp only [Act.put]
          refine wpAnyH_ready (rs := [9]) (by decide +kernel) (by simp) ?_
          refine AllReadyH.cons get9of10 (fun K hK => ?_) AllReadyH.nil
          rw [if_pos (by kernel_rfl)]
          refine wp_store_row (o := ⟨none, .store _ (.tmp 8) _, _, _, _, _⟩) 30 _ _ rfl (wb7.heap.size) (yvs SB) rfl rfl 30 (yvs (zeroY 16)) (show (wt11.setRow wt1.heap.size (yvs SA)).heap[wb7.heap.size]? = _ from ((setRow_other _ _ _ _ (Ne.symm NE10.out)).trans HY11.out)) ISB.out ESB.out (yvs_one _) ?_
          refine hK.out _ _ (HS.out _ (ybelow_row (ybelow_row HB11.out HNX7.out (yvs SA)) HNY10.out _)) (fun hHeld => ?_)
          clear hK K hHeld
          simp only [Act.put]
          refine wpAnyH_done (by decide +kernel) ?_ _
          refine NoPanic.normal ?_
          go_wp2_with fail
          go_meet
          exact ⟨wt1.heap.size, wb7.heap.size, rfl, rfl, (setRow_other _ _ _ _ NE10.out).trans (setRow_heap _ _ _ _ _ _ HX11.out), setRow_heap _ _ _ _ _ _ ((setRow_other _ _ _ _ (Ne.symm NE10.out)).trans HY11.out), ybelow_row (ybelow_row HB11.out HNX7.out _) HNY10.out _⟩
      · go_simp
        have hal := HB1.out.alloc HB1.out.size (.cells (yvs (zeroY 16)) 30)
        have hxl := heap_alloc_new wt1 (.cells (yvs (zeroY 16)) 30)
        have hst := (Below.refl wt1.heap.size wt1).alloc (Nat.le_refl _) (.cells (yvs (zeroY 16)) 30)
        refine hK.out _ _ (HS.out _ hal) (fun hHeld => ?_)
        clear hK K hHeld
        try simp only [Act.put, List.setIfInBounds_toArray, List.set_cons_zero, List.set_cons_succ]
        refine (show ∀ wb12 : World, wb12 = wt1.alloc (.cells (yvs (zeroY 16)) 30) → _ from ?_) _ rfl
        intro wb12 ew
        rw [← ew] at hal hxl hst
        have HB12 := Lib.hid hal
        have HY12 := Lib.hid (show ArrY wb12 wt1.heap.size 30 (zeroY 16) from hxl)
        have HNY12 := Lib.hid HB1.out.size
        clear ew hal hxl hst
        refine wpAnyH_ready (rs := [5, 6]) (by decide +kernel) (by simp) ?_
        refine AllReadyH.cons rfl (fun K hK => ?_) (AllReadyH.cons rfl (fun K hK => ?_) AllReadyH.nil)
        · go_simp
          go_at_call 19
          refine (HSB.out _).mono ?_
          rintro e wt13 ⟨rfl, hb⟩
          have HB13 := Lib.hid (HB12.out.trans (hb.mono HB12.out.size))
          have HY13 := Lib.hid (HY12.out.below hb (ylt HY12.out))
          clear hb
          go_wp2_with fail
          refine hK.out _ _ (HS.out _ HB13.out) (fun hHeld => ?_)
          clear hK K hHeld
          try simp only [Act.put, List.setIfInBounds_toArray, List.set_cons_zero, List.set_cons_succ]
          refine wpAnyH_ready (rs := [6]) (by decide +kernel) (by simp) ?_
          refine AllReadyH.cons rfl (fun K hK => ?_) AllReadyH.nil
          go_simp
          have hal := HB13.out.alloc HB13.out.size (.cells (yvs (zeroY 16)) 30)
          have hxl := heap_alloc_new wt13 (.cells (yvs (zeroY 16)) 30)
          have hst := (Below.refl wt13.heap.size wt13).alloc (Nat.le_refl _) (.cells (yvs (zeroY 16)) 30)
          refine hK.out _ _ (HS.out _ hal) (fun hHeld => ?_)
          clear hK K hHeld
          try simp only [Act.put, List.setIfInBounds_toArray, List.set_cons_zero, List.set_cons_succ]
          refine (show ∀ wb14 : World, wb14 = wt13.alloc (.cells (yvs (zeroY 16)) 30) → _ from ?_) _ rfl
          intro wb14 ew
          rw [← ew] at hal hxl hst
          have HB14 := Lib.hid hal
          have HX14 := Lib.hid (show ArrY wb14 wt13.heap.size 30 (zeroY 16) from hxl)
          have HNX14 := Lib.hid HB13.out.size
          have HY14 := Lib.hid (HY13.out.below hst (ylt HY13.out))
          have NE14 := Lib.hid (show wt1.heap.size ≠ wt13.heap.size from Nat.ne_of_lt (ylt HY13.out))
          clear ew hal hxl hst
          refine wpAnyH_ready (rs := [8]) (by decide +kernel) (by simp) ?_
          refine AllReadyH.cons get8of10 (fun K hK => ?_) AllReadyH.nil
          rw [if_pos (by kernel_rfl)]
          refine wp_store_row (o := ⟨none, .store _ (.tmp 7) _, _, _, _, _⟩) 30 _ _ rfl (wt13.heap.size) (yvs SA) rfl rfl 30 (yvs (zeroY 16)) (show wb14.heap[wt13.heap.size]? = _ from HX14.out) ISA.out ESA.out (yvs_one _) ?_
          refine hK.out _ _ (HS.out _ (ybelow_row HB14.out HNX14.out _)) (fun hHeld => ?_)
          clear hK K hHeld
          simp only [Act.put]
          refine wpAnyH_ready (rs := [9]) (by decide +kernel) (by simp) ?_
          refine AllReadyH.cons get9of10 (fun K hK => ?_) AllReadyH.nil
          rw [if_pos (by kernel_rfl)]
          refine wp_store_row (o := ⟨none, .store _ (.tmp 8) _, _, _, _, _⟩) 30 _ _ rfl (wt1.heap.size) (yvs SB) rfl rfl 30 (yvs (zeroY 16)) (show (wb14.setRow wt13.heap.size (yvs SA)).heap[wt1.heap.size]? = _ from ((setRow_other _ _ _ _ (Ne.symm (Ne.symm NE14.out))).trans HY14.out)) ISB.out ESB.out (yvs_one _) ?_
          refine hK.out _ _ (HS.out _ (ybelow_row (ybelow_row HB14.out HNX14.out (yvs SA)) HNY12.out _)) (fun hHeld => ?_)
          clear hK K hHeld
          simp only [Act.put]
          refine wpAnyH_done (by decide +kernel) ?_ _
          refine NoPanic.normal ?_
          go_wp2_with fail
          go_meet
          exact ⟨wt13.heap.size, wt1.heap.size, rfl, rfl, (setRow_other _ _ _ _ (Ne.symm NE14.out)).trans (setRow_heap _ _ _ _ _ _ HX14.out), setRow_heap _ _ _ _ _ _ ((setRow_other _ _ _ _ (Ne.symm (Ne.symm NE14.out))).trans HY14.out), ybelow_row (ybelow_row HB14.out HNX14.out _) HNY12.out _⟩
        · go_simp
          have hal := HB12.out.alloc HB12.out.size (.cells (yvs (zeroY 16)) 30)
          have hxl := heap_alloc_new wb12 (.cells (yvs (zeroY 16)) 30)
          have hst := (Below.refl wb12.heap.size wb12).alloc (Nat.le_refl _) (.cells (yvs (zeroY 16)) 30)
          refine hK.out _ _ (HS.out _ hal) (fun hHeld => ?_)
          clear hK K hHeld
          try simp only [Act.put, List.setIfInBounds_toArray, List.set_cons_zero, List.set_cons_succ]
          refine (show ∀ wb15 : World, wb15 = wb12.alloc (.cells (yvs (zeroY 16)) 30) → _ from ?_) _ rfl
          intro wb15 ew
          rw [← ew] at hal hxl hst
          have HB15 := Lib.hid hal
          have HX15 := Lib.hid (show ArrY wb15 wb12.heap.size 30 (zeroY 16) from hxl)
          have HNX15 := Lib.hid HB12.out.size
          have HY15 := Lib.hid (HY12.out.below hst (ylt HY12.out))
          have NE15 := Lib.hid (show wt1.heap.size ≠ wb12.heap.size from Nat.ne_of_lt (ylt HY12.out))
          clear ew hal hxl hst
          refine wpAnyH_ready (rs := [5]) (by decide +kernel) (by simp) ?_
          refine AllReadyH.cons rfl (fun K hK => ?_) AllReadyH.nil
          go_simp
          go_at_call 19
          refine (HSB.out _).mono ?_
          rintro e wt16 ⟨rfl, hb⟩
          have HB16 := Lib.hid (HB15.out.trans (hb.mono HB15.out.size))
          have HX16 := Lib.hid (HX15.out.below hb (ylt HX15.out))
          have HY16 := Lib.hid (HY15.out.below hb (ylt HY15.out))
          clear hb
          go_wp2_with fail
          refine hK.out _ _ (HS.out _ HB16.out) (fun hHeld => ?_)
          clear hK K hHeld
          try simp only [Act.put, List.setIfInBounds_toArray, List.set_cons_zero, List.set_cons_succ]
          refine wpAnyH_ready (rs := [8]) (by decide +kernel) (by simp) ?_
          refine AllReadyH.cons get8of10 (fun K hK => ?_) AllReadyH.nil
          rw [if_pos (by kernel_rfl)]
          refine wp_store_row (o := ⟨none, .store _ (.tmp 7) _, _, _, _, _⟩) 30 _ _ rfl (wb12.heap.size) (yvs SA) rfl rfl 30 (yvs (zeroY 16)) (show wt16.heap[wb12.heap.size]? = _ from HX16.out) ISA.out ESA.out (yvs_one _) ?_
          refine hK.out _ _ (HS.out _ (ybelow_row HB16.out HNX15.out _)) (fun hHeld => ?_)
          clear hK K hHeld
          simp only [Act.put]
          refine wpAnyH_ready (rs := [9]) (by decide +kernel) (by simp) ?_
          refine AllReadyH.cons get9of10 (fun K hK => ?_) AllReadyH.nil
          rw [if_pos (by kernel_rfl)]
          refine wp_store_row (o := ⟨none, .store _ (.tmp 8) _, _, _, _, _⟩) 30 _ _ rfl (wt1.heap.size) (yvs SB) rfl rfl 30 (yvs (zeroY 16)) (show (wt16.setRow wb12.heap.size (yvs SA)).heap[wt1.heap.size]? = _ from ((setRow_other _ _ _ _ (Ne.symm (Ne.symm NE15.out))).trans HY16.out)) ISB.out ESB.out (yvs_one _) ?_
          refine hK.out _ _ (HS.out _ (ybelow_row (ybelow_row HB16.out HNX15.out (yvs SA)) HNY12.out _)) (fun hHeld => ?_)
          clear hK K hHeld
          simp only [Act.put]
          refine wpAnyH_done (by decide +kernel) ?_ _
          refine NoPanic.normal ?_
          go_wp2_with fail
          go_meet
          exact ⟨wb12.heap.size, wt1.heap.size, rfl, rfl, (setRow_other _ _ _ _ (Ne.symm NE15.out)).trans (setRow_heap _ _ _ _ _ _ HX16.out), setRow_heap _ _ _ _ _ _ ((setRow_other _ _ _ _ (Ne.symm (Ne.symm NE15.out))).trans HY16.out), ybelow_row (ybelow_row HB16.out HNX15.out _) HNY12.out _⟩
    · go_simp
      have hal := HB0.out.alloc HB0.out.size (.cells (yvs (zeroY 16)) 30)
      have hxl := heap_alloc_new W3.drew (.cells (yvs (zeroY 16)) 30)
      have hst := (Below.refl W3.drew.heap.size W3.drew).alloc (Nat.le_refl _) (.cells (yvs (zeroY 16)) 30)
      refine hK.out _ _ (HS.out _ hal) (fun hHeld => ?_)
      clear hK K hHeld
      try simp only [Act.put, List.setIfInBounds_toArray, List.set_cons_zero, List.set_cons_succ]
      refine (show ∀ wb17 : World, wb17 = W3.drew.alloc (.cells (yvs (zeroY 16)) 30) → _ from ?_) _ rfl
      intro wb17 ew
      rw [← ew] at hal hxl hst
      have HB17 := Lib.hid hal
      have HX17 := Lib.hid (show ArrY wb17 W3.drew.heap.size 30 (zeroY 16) from hxl)
      have HNX17 := Lib.hid HB0.out.size
      clear ew hal hxl hst
      refine wpAnyH_ready (rs := [2, 7]) (by decide +kernel) (by simp) ?_
      refine AllReadyH.cons rfl (fun K hK => ?_) (AllReadyH.cons rfl (fun K hK => ?_) AllReadyH.nil)
      · go_simp
        go_at_call 19
        refine (HSA.out _).mono ?_
        rintro e wt18 ⟨rfl, hb⟩
        have HB18 := Lib.hid (HB17.out.trans (hb.mono HB17.out.size))
        have HX18 := Lib.hid (HX17.out.below hb (ylt HX17.out))
        clear hb
        go_wp2_with fail
        refine hK.out _ _ (HS.out _ HB18.out) (fun hHeld => ?_)
        clear hK K hHeld
        try simp only [Act.put, List.setIfInBounds_toArray, List.set_cons_zero, List.set_cons_succ]
        refine wpAnyH_ready (rs := [5, 7]) (by decide +kernel) (by simp) ?_
        refine AllReadyH.cons rfl (fun K hK => ?_) (AllReadyH.cons rfl (fun K hK => ?_) AllReadyH.nil)
        · go_simp
          go_at_call 19
          refine (HSB.out _).mono ?_
          rintro e wt19 ⟨rfl, hb⟩
          have HB19 := Lib.hid (HB18.out.trans (hb.mono HB18.out.size))
          have HX19 := Lib.hid (HX18.out.below hb (ylt HX18.out))
          clear hb
          go_wp2_with fail
          refine hK.out _ _ (HS.out _ HB19.out) (fun hHeld => ?_)
          clear hK K hHeld
          try simp only [Act.put, List.setIfInBounds_toArray, List.set_cons_zero, List.set_cons_succ]
          refine wpAnyH_ready (rs := [7]) (by decide +kernel) (by simp) ?_
          refine AllReadyH.cons rfl (fun K hK => ?_) AllReadyH.nil
          go_simp
          have hal := HB19.out.alloc HB19.out.size (.cells (yvs (zeroY 16)) 30)
          have hxl := heap_alloc_new wt19 (.cells (yvs (zeroY 16)) 30)
          have hst := (Below.refl wt19.heap.size wt19).alloc (Nat.le_refl _) (.cells (yvs (zeroY 16)) 30)
          refine hK.out _ _ (HS.out _ hal) (fun hHeld => ?_)
          clear hK K hHeld
          try simp only [Act.put, List.setIfInBounds_toArray, List.set_cons_zero, List.set_cons_succ]
          refine (show ∀ wb20 : World, wb20 = wt19.alloc (.cells (yvs (zeroY 16)) 30) → _ from ?_) _ rfl
          intro wb20 ew
          rw [← ew] at hal hxl hst
          have HB20 := Lib.hid hal
          have HY20 := Lib.hid (show ArrY wb20 wt19.heap.size 30 (zeroY 16) from hxl)
          have HNY20 := Lib.hid HB19.out.size
          have HX20 := Lib.hid (HX19.out.below hst (ylt HX19.out))
          have NE20 := Lib.hid (show W3.drew.heap.size ≠ wt19.heap.size from Nat.ne_of_lt (ylt HX19.out))
          clear ew hal hxl hst
          refine wpAnyH_ready (rs := [8]) (by decide +kernel) (by simp) ?_
          refine AllReadyH.cons get8of10 (fun K hK => ?_) AllReadyH.nil
          rw [if_pos (by kernel_rfl)]
          refine wp_store_row (o := ⟨none, .store _ (.tmp 7) _, _, _, _, _⟩) 30 _ _ rfl (W3.drew.heap.size) (yvs SA) rfl rfl 30 (yvs (zeroY 16)) (show wb20.heap[W3.drew.heap.size]? = _ from HX20.out) ISA.out ESA.out (yvs_one _) ?_
          refine hK.out _ _ (HS.out _ (ybelow_row HB20.out HNX17.out _)) (fun hHeld => ?_)
          clear hK K hHeld
          simp only [Act.put]
          refine wpAnyH_ready (rs := [9]) (by decide +kernel) (by simp) ?_
          refine AllReadyH.cons get9of10 (fun K hK => ?_) AllReadyH.nil
          rw [if_pos (by kernel_rfl)]
          refine wp_store_row (o := ⟨none, .store _ (.tmp 8) _, _, _, _, _⟩) 30 _ _ rfl (wt19.heap.size) (yvs SB) rfl rfl 30 (yvs (zeroY 16)) (show (wb20.setRow W3.drew.heap.size (yvs SA)).heap[wt19.heap.size]? = _ from ((setRow_other _ _ _ _ (Ne.symm NE20.out)).trans HY20.out)) ISB.out ESB.out (yvs_one _) ?_
          refine hK.out _ _ (HS.out _ (ybelow_row (ybelow_row HB20.out HNX17.out (yvs SA)) HNY20.out _)) (fun hHeld => ?_)
          clear hK K hHeld
          simp only [Act.put]
          refine wpAnyH_done (by decide +kernel) ?_ _
          refine NoPanic.normal ?_
          go_wp2_with fail
          go_meet
          exact ⟨W3.drew.heap.size, wt19.heap.size, rfl, rfl, (setRow_other _ _ _ _ NE20.out).trans (setRow_heap _ _ _ _ _ _ HX20.out), setRow_heap _ _ _ _ _ _ ((setRow_other _ _ _ _ (Ne.symm NE20.out)).trans HY20.out), ybelow_row (ybelow_row HB20.out HNX17.out _) HNY20.out _⟩
        · go_simp
          have hal := HB18.out.alloc HB18.out.size (.cells (yvs (zeroY 16)) 30)
          have hxl := heap_alloc_new wt18 (.cells (yvs (zeroY 16)) 30)
          have hst := (Below.refl wt18.heap.size wt18).alloc (Nat.le_refl _) (.cells (yvs (zeroY 16)) 30)
          refine hK.out _ _ (HS.out _ hal) (fun hHeld => ?_)
          clear hK K hHeld
          try simp only [Act.put, List.setIfInBounds_toArray, List.set_cons_zero, List.set_cons_succ]
          refine (show ∀ wb21 : World, wb21 = wt18.alloc (.cells (yvs (zeroY 16)) 30) → _ from ?_) _ rfl
          intro wb21 ew
          rw [← ew] at hal hxl hst
          have HB21 := Lib.hid hal
          have HY21 := Lib.hid (show ArrY wb21 wt18.heap.size 30 (zeroY 16) from hxl)
          have HNY21 := Lib.hid HB18.out.size
          have HX21 := Lib.hid (HX18.out.below hst (ylt HX18.out))
          have NE21 := Lib.hid (show W3.drew.heap.size ≠ wt18.heap.size from Nat.ne_of_lt (ylt HX18.out))
          clear ew hal hxl hst
          refine wpAnyH_ready (rs := [5]) (by decide +kernel) (by simp) ?_
          refine AllReadyH.cons rfl (fun K hK => ?_) AllReadyH.nil
          go_simp
          go_at_call 19
          refine (HSB.out _).mono ?_
          rintro e wt22 ⟨rfl, hb⟩
          have HB22 := Lib.hid (HB21.out.trans (hb.mono HB21.out.size))
          have HX22 := Lib.hid (HX21.out.below hb (ylt HX21.out))
          have HY22 := Lib.hid (HY21.out.below hb (ylt HY21.out))
          clear hb
          go_wp2_with fail
          refine hK.out _ _ (HS.out _ HB22.out) (fun hHeld => ?_)
          clear hK K hHeld
          try simp only [Act.put, List.setIfInBounds_toArray, List.set_cons_zero, List.set_cons_succ]
          refine wpAnyH_ready (rs := [8]) (by decide +kernel) (by simp) ?_
          refine AllReadyH.cons get8of10 (fun K hK => ?_) AllReadyH.nil
          rw [if_pos (by kernel_rfl)]
          refine wp_store_row (o := ⟨none, .store _ (.tmp 7) _, _, _, _, _⟩) 30 _ _ rfl (W3.drew.heap.size) (yvs SA) rfl rfl 30 (yvs (zeroY 16)) (show wt22.heap[W3.drew.heap.size]? = _ from HX22.out) ISA.out ESA.out (yvs_one _) ?_
          refine hK.out _ _ (HS.out _ (ybelow_row HB22.out HNX17.out _)) (fun hHeld => ?_)
          clear hK K hHeld
          simp only [Act.put]
          refine wpAnyH_ready (rs := [9]) (by decide +kernel) (by simp) ?_
          refine AllReadyH.cons get9of10 (fun K hK => ?_) AllReadyH.nil
          rw [if_pos (by kernel_rfl)]
          refine wp_store_row (o := ⟨none, .store _ (.tmp 8) _, _, _, _, _⟩) 30 _ _ rfl (wt18.heap.size) (yvs SB) rfl rfl 30 (yvs (zeroY 16)) (show (wt22.setRow W3.drew.heap.size (yvs SA)).heap[wt18.heap.size]? = _ from ((setRow_other _ _ _ _ (Ne.symm NE21.out)).trans HY22.out)) ISB.out ESB.out (yvs_one _) ?_
          refine hK.out _ _ (HS.out _ (ybelow_row (ybelow_row HB22.out HNX17.out (yvs SA)) HNY21.out _)) (fun hHeld => ?_)
          clear hK K hHeld
          simp only [Act.put]
          refine wpAnyH_done (by decide +kernel) ?_ _
          refine NoPanic.normal ?_
          go_wp2_with fail
          go_meet
          exact ⟨W3.drew.heap.size, wt18.heap.size, rfl, rfl, (setRow_other _ _ _ _ NE21.out).trans (setRow_heap _ _ _ _ _ _ HX22.out), setRow_heap _ _ _ _ _ _ ((setRow_other _ _ _ _ (Ne.symm NE21.out)).trans HY22.out), ybelow_row (ybelow_row HB22.out HNX17.out _) HNY21.out _⟩
      · go_simp
        have hal := HB17.out.alloc HB17.out.size (.cells (yvs (zeroY 16)) 30)
        have hxl := heap_alloc_new wb17 (.cells (yvs (zeroY 16)) 30)
        have hst := (Below.refl wb17.heap.size wb17).alloc (Nat.le_refl _) (.cells (yvs (zeroY 16)) 30)
        refine hK.out _ _ (HS.out _ hal) (fun hHeld => ?_)
        clear hK K hHeld
        try simp only [Act.put, List.setIfInBounds_toArray, List.set_cons_zero, List.set_cons_succ]
        refine (show ∀ wb23 : World, wb23 = wb17.alloc (.cells (yvs (zeroY 16)) 30) → _ from ?_) _ rfl
        intro wb23 ew
        rw [← ew] at hal hxl hst
        have HB23 := Lib.hid hal
        have HY23 := Lib.hid (show ArrY wb23 wb17.heap.size 30 (zeroY 16) from hxl)
        have HNY23 := Lib.hid HB17.out.size
        have HX23 := Lib.hid (HX17.out.below hst (ylt HX17.out))
        have NE23 := Lib.hid (show W3.drew.heap.size ≠ wb17.heap.size from Nat.ne_of_lt (ylt HX17.out))
        clear ew hal hxl hst
        refine wpAnyH_ready (rs := [2]) (by decide +kernel) (by simp) ?_
        refine AllReadyH.cons rfl (fun K hK => ?_) AllReadyH.nil
        go_simp
        go_at_call 19
        refine (HSA.out _).mono ?_
        rintro e wt24 ⟨rfl, hb⟩
        have HB24 := Lib.hid (HB23.out.trans (hb.mono HB23.out.size))
        have HX24 := Lib.hid (HX23.out.below hb (ylt HX23.out))
        have HY24 := Lib.hid (HY23.out.below hb (ylt HY23.out))
        clear hb
        go_wp2_with fail
        refine hK.out _ _ (HS.out _ HB24.out) (fun hHeld => ?_)
        clear hK K hHeld
        try simp only [Act.put, List.setIfInBounds_toArray, List.set_cons_zero, List.set_cons_succ]
        refine wpAnyH_ready (rs := [5]) (by decide +kernel) (by simp) ?_
        refine AllReadyH.cons rfl (fun K hK => ?_) AllReadyH.nil
        go_simp
        go_at_call 19
        refine (HSB.out _).mono ?_
        rintro e wt25 ⟨rfl, hb⟩
        have HB25 := Lib.hid (HB24.out.trans (hb.mono HB24.out.size))
        have HX25 := Lib.hid (HX24.out.below hb (ylt HX24.out))
        have HY25 := Lib.hid (HY24.out.below hb (ylt HY24.out))
        clear hb
        go_wp2_with fail
        refine hK.out _ _ (HS.out _ HB25.out) (fun hHeld => ?_)
        clear hK K hHeld
        try simp only [Act.put, List.setIfInBounds_toArray, List.set_cons_zero, List.set_cons_succ]
        refine wpAnyH_ready (rs := [8]) (by decide +kernel) (by simp) ?_
        refine AllReadyH.cons get8of10 (fun K hK => ?_) AllReadyH.nil
        rw [if_pos (by kernel_rfl)]
        refine wp_store_row (o := ⟨none, .store _ (.tmp 7) _, _, _, _, _⟩) 30 _ _ rfl (W3.drew.heap.size) (yvs SA) rfl rfl 30 (yvs (zeroY 16)) (show wt25.heap[W3.drew.heap.size]? = _ from HX25.out) ISA.out ESA.out (yvs_one _) ?_
        refine hK.out _ _ (HS.out _ (ybelow_row HB25.out HNX17.out _)) (fun hHeld => ?_)
        clear hK K hHeld
        simp only [Act.put]
        refine wpAnyH_ready (rs := [9]) (by decide +kernel) (by simp) ?_
        refine AllReadyH.cons get9of10 (fun K hK => ?_) AllReadyH.nil
        rw [if_pos (by kernel_rfl)]
        refine wp_store_row (o := ⟨none, .store _ (.tmp 8) _, _, _, _, _⟩) 30 _ _ rfl (wb17.heap.size) (yvs SB) rfl rfl 30 (yvs (zeroY 16)) (show (wt25.setRow W3.drew.heap.size (yvs SA)).heap[wb17.heap.size]? = _ from ((setRow_other _ _ _ _ (Ne.symm NE23.out)).trans HY25.out)) ISB.out ESB.out (yvs_one _) ?_
        refine hK.out _ _ (HS.out _ (ybelow_row (ybelow_row HB25.out HNX17.out (yvs SA)) HNY23.out _)) (fun hHeld => ?_)
        clear hK K hHeld
        simp only [Act.put]
        refine wpAnyH_done (by decide +kernel) ?_ _
        refine NoPanic.normal ?_
        go_wp2_with fail
        go_meet
        exact ⟨W3.drew.heap.size, wb17.heap.size, rfl, rfl, (setRow_other _ _ _ _ NE23.out).trans (setRow_heap _ _ _ _ _ _ HX25.out), setRow_heap _ _ _ _ _ _ ((setRow_other _ _ _ _ (Ne.symm NE23.out)).trans HY25.out), ybelow_row (ybelow_row HB25.out HNX17.out _) HNY23.out _⟩
    · go_simp
      have hal := HB0.out.alloc HB0.out.size (.cells (yvs (zeroY 16)) 30)
      have hxl := heap_alloc_new W3.drew (.cells (yvs (zeroY 16)) 30)
      have hst := (Below.refl W3.drew.heap.size W3.drew).alloc (Nat.le_refl _) (.cells (yvs (zeroY 16)) 30)
      refine hK.out _ _ (HS.out _ hal) (fun hHeld => ?_)
      clear hK K hHeld
      try simp only [Act.put, List.setIfInBounds_toArray, List.set_cons_zero, List.set_cons_succ]
      refine (show ∀ wb26 : World, wb26 = W3.drew.alloc (.cells (yvs (zeroY 16)) 30) → _ from ?_) _ rfl
      intro wb26 ew
      rw [← ew] at hal hxl hst
      have HB26 := Lib.hid hal
      have HY26 := Lib.hid (show ArrY wb26 W3.drew.heap.size 30 (zeroY 16) from hxl)
      have HNY26 := Lib.hid HB0.out.size
      clear ew hal hxl hst
      refine wpAnyH_ready (rs := [2, 6]) (by decide +kernel) (by simp) ?_
      refine AllReadyH.cons rfl (fun K hK => ?_) (AllReadyH.cons rfl (fun K hK => ?_) AllReadyH.nil)
      · go_simp
        go_at_call 19
        refine (HSA.out _).mono ?_
        rintro e wt27 ⟨rfl, hb⟩
        have HB27 := Lib.hid (HB26.out.trans (hb.mono HB26.out.size))
        have HY27 := Lib.hid (HY26.out.below hb (ylt HY26.out))
        clear hb
        go_wp2_with fail
        refine hK.out _ _ (HS.out _ HB27.out) (fun hHeld => ?_)
        clear hK K hHeld
        try simp only [Act.put, List.setIfInBounds_toArray, List.set_cons_zero, List.set_cons_succ]
        refine wpAnyH_ready (rs := [5, 6]) (by decide +kernel) (by simp) ?_
        refine AllReadyH.cons rfl (fun K hK => ?_) (AllReadyH.cons rfl (fun K hK => ?_) AllReadyH.nil)
        · go_simp
          go_at_call 19
          refine (HSB.out _).mono ?_
          rintro e wt28 ⟨rfl, hb⟩
          have HB28 := Lib.hid (HB27.out.trans (hb.mono HB27.out.size))
          have HY28 := Lib.hid (HY27.out.below hb (ylt HY27.out))
          clear hb
          go_wp2_with fail
          refine hK.out _ _ (HS.out _ HB28.out) (fun hHeld => ?_)
          clear hK K hHeld
          try simp only [Act.put, List.setIfInBounds_toArray, List.set_cons_zero, List.set_cons_succ]
          refine wpAnyH_ready (rs := [6]) (by decide +kernel) (by simp) ?_
          refine AllReadyH.cons rfl (fun K hK => ?_) AllReadyH.nil
          go_simp
          have hal := HB28.out.alloc HB28.out.size (.cells (yvs (zeroY 16)) 30)
          have hxl := heap_alloc_new wt28 (.cells (yvs (zeroY 16)) 30)
          have hst := (Below.refl wt28.heap.size wt28).alloc (Nat.le_refl _) (.cells (yvs (zeroY 16)) 30)
          refine hK.out _ _ (HS.out _ hal) (fun hHeld => ?_)
          clear hK K hHeld
          try simp only [Act.put, List.setIfInBounds_toArray, List.set_cons_zero, List.set_cons_succ]
          refine (show ∀ wb29 : World, wb29 = wt28.alloc (.cells (yvs (zeroY 16)) 30) → _ from ?_) _ rfl
          intro wb29 ew
          rw [← ew] at hal hxl hst
          have HB29 := Lib.hid hal
          have HX29 := Lib.hid (show ArrY wb29 wt28.heap.size 30 (zeroY 16) from hxl)
          have HNX29 := Lib.hid HB28.out.size
          have HY29 := Lib.hid (HY28.out.below hst (ylt HY28.out))
          have NE29 := Lib.hid (show W3.drew.heap.size ≠ wt28.heap.size from Nat.ne_of_lt (ylt HY28.out))
          clear ew hal hxl hst
          refine wpAnyH_ready (rs := [8]) (by decide +kernel) (by simp) ?_
          refine AllReadyH.cons get8of10 (fun K hK => ?_) AllReadyH.nil
          rw [if_pos (by kernel_rfl)]
          refine wp_store_row (o := ⟨none, .store _ (.tmp 7) _, _, _, _, _⟩) 30 _ _ rfl (wt28.heap.size) (yvs SA) rfl rfl 30 (yvs (zeroY 16)) (show wb29.heap[wt28.heap.size]? = _ from HX29.out) ISA.out ESA.out (yvs_one _) ?_
          refine hK.out _ _ (HS.out _ (ybelow_row HB29.out HNX29.out _)) (fun hHeld => ?_)
          clear hK K hHeld
          simp only [Act.put]
          refine wpAnyH_ready (rs := [9]) (by decide +kernel) (by simp) ?_
          refine AllReadyH.cons get9of10 (fun K hK => ?_) AllReadyH.nil
          rw [if_pos (by kernel_rfl)]
          refine wp_store_row (o := ⟨none, .store _ (.tmp 8) _, _, _, _, _⟩) 30 _ _ rfl (W3.drew.heap.size) (yvs SB) rfl rfl 30 (yvs (zeroY 16)) (show (wb29.setRow wt28.heap.size (yvs SA)).heap[W3.drew.heap.size]? = _ from ((setRow_other _ _ _ _ (Ne.symm (Ne.symm NE29.out))).trans HY29.out)) ISB.out ESB.out (yvs_one _) ?_
          refine hK.out _ _ (HS.out _ (ybelow_row (ybelow_row HB29.out HNX29.out (yvs SA)) HNY26.out _)) (fun hHeld => ?_)
          clear hK K hHeld
          simp only [Act.put]
          refine wpAnyH_done (by decide +kernel) ?_ _
          refine NoPanic.normal ?_
          go_wp2_with fail
          go_meet
          exact ⟨wt28.heap.size, W3.drew.heap.size, rfl, rfl, (setRow_other _ _ _ _ (Ne.symm NE29.out)).trans (setRow_heap _ _ _ _ _ _ HX29.out), setRow_heap _ _ _ _ _ _ ((setRow_other _ _ _ _ (Ne.symm (Ne.symm NE29.out))).trans HY29.out), ybelow_row (ybelow_row HB29.out HNX29.out _) HNY26.out _⟩
        · go_simp
          have hal := HB27.out.alloc HB27.out.size (.cells (yvs (zeroY 16)) 30)
          have hxl := heap_alloc_new wt27 (.cells (yvs (zeroY 16)) 30)
          have hst := (Below.refl wt27.heap.size wt27).alloc (Nat.le_refl _) (.cells (yvs (zeroY 16)) 30)
          refine hK.out _ _ (HS.out _ hal) (fun hHeld => ?_)
          clear hK K hHeld
          try simp only [Act.put, List.setIfInBounds_toArray, List.set_cons_zero, List.set_cons_succ]
          refine (show ∀ wb30 : World, wb30 = wt27.alloc (.cells (yvs (zeroY 16)) 30) → _ from ?_) _ rfl
          intro wb30 ew
          rw [← ew] at hal hxl hst
          have HB30 := Lib.hid hal
          have HX30 := Lib.hid (show ArrY wb30 wt27.heap.size 30 (zeroY 16) from hxl)
          have HNX30 := Lib.hid HB27.out.size
          have HY30 := Lib.hid (HY27.out.below hst (ylt HY27.out))
          have NE30 := Lib.hid (show W3.drew.heap.size ≠ wt27.heap.size from Nat.ne_of_lt (ylt HY27.out))
          clear ew hal hxl hst
          refine wpAnyH_ready (rs := [5]) (by decide +kernel) (by simp) ?_
          refine AllReadyH.cons rfl (fun K hK => ?_) AllReadyH.nil
          go_simp
          go_at_call 19
          refine (HSB.out _).mono ?_
          rintro e wt31 ⟨rfl, hb⟩
          have HB31 := Lib.hid (HB30.out.trans (hb.mono HB30.out.size))
          have HX31 := Lib.hid (HX30.out.below hb (ylt HX30.out))
          have HY31 := Lib.hid (HY30.out.below hb (ylt HY30.out))
          clear hb
          go_wp2_with fail
          refine hK.out _ _ (HS.out _ HB31.out) (fun hHeld => ?_)
          clear hK K hHeld
          try simp only [Act.put, List.setIfInBounds_toArray, List.set_cons_zero, List.set_cons_succ]
          refine wpAnyH_ready (rs := [8]) (by decide +kernel) (by simp) ?_
          refine AllReadyH.cons get8of10 (fun K hK => ?_) AllReadyH.nil
          rw [if_pos (by kernel_rfl)]
          refine wp_store_row (o := ⟨none, .store _ (.tmp 7) _, _, _, _, _⟩) 30 _ _ rfl (wt27.heap.size) (yvs SA) rfl rfl 30 (yvs (zeroY 16)) (show wt31.heap[wt27.heap.size]? = _ from HX31.out) ISA.out ESA.out (yvs_one _) ?_
          refine hK.out _ _ (HS.out _ (ybelow_row HB31.out HNX30.out _)) (fun hHeld => ?_)
          clear hK K hHeld
          simp only [Act.put]
          refine wpAnyH_ready (rs := [9]) (by decide +kernel) (by simp) ?_
          refine AllReadyH.cons get9of10 (fun K hK => ?_) AllReadyH.nil
          rw [if_pos (by kernel_rfl)]
          refine wp_store_row (o := ⟨none, .store _ (.tmp 8) _, _, _, _, _⟩) 30 _ _ rfl (W3.drew.heap.size) (yvs SB) rfl rfl 30 (yvs (zeroY 16)) (show (wt31.setRow wt27.heap.size (yvs SA)).heap[W3.drew.heap.size]? = _ from ((setRow_other _ _ _ _ (Ne.symm (Ne.symm NE30.out))).trans HY31.out)) ISB.out ESB.out (yvs_one _) ?_
          refine hK.out _ _ (HS.out _ (ybelow_row (ybelow_row HB31.out HNX30.out (yvs SA)) HNY26.out _)) (fun hHeld => ?_)
          clear hK K hHeld
          simp only [Act.put]
          refine wpAnyH_done (by decide +kernel) ?_ _
          refine NoPanic.normal ?_
          go_wp2_with fail
          go_meet
          exact ⟨wt27.heap.size, W3.drew.heap.size, rfl, rfl, (setRow_other _ _ _ _ (Ne.symm NE30.out)).trans (setRow_heap _ _ _ _ _ _ HX31.out), setRow_heap _ _ _ _ _ _ ((setRow_other _ _ _ _ (Ne.symm (Ne.symm NE30.out))).trans HY31.out), ybelow_row (ybelow_row HB31.out HNX30.out _) HNY26.out _⟩
      · go_simp
        have hal := HB26.out.alloc HB26.out.size (.cells (yvs (zeroY 16)) 30)
        have hxl := heap_alloc_new wb26 (.cells (yvs (zeroY 16)) 30)
        have hst := (Below.refl wb26.heap.size wb26).alloc (Nat.le_refl _) (.cells (yvs (zeroY 16)) 30)
        refine hK.out _ _ (HS.out _ hal) (fun hHeld => ?_)
        clear hK K hHeld
        try simp only [Act.put, List.setIfInBounds_toArray, List.set_cons_zero, List.set_cons_succ]
        refine (show ∀ wb32 : World, wb32 = wb26.alloc (.cells (yvs (zeroY 16)) 30) → _ from ?_) _ rfl
        intro wb32 ew
        rw [← ew] at hal hxl hst
        have HB32 := Lib.hid hal
        have HX32 := Lib.hid (show ArrY wb32 wb26.heap.size 30 (zeroY 16) from hxl)
        have HNX32 := Lib.hid HB26.out.size
        have HY32 := Lib.hid (HY26.out.below hst (ylt HY26.out))
        have NE32 := Lib.hid (show W3.drew.heap.size ≠ wb26.heap.size from Nat.ne_of_lt (ylt HY26.out))
        clear ew hal hxl hst
        refine wpAnyH_ready (rs := [2]) (by decide +kernel) (by simp) ?_
        refine AllReadyH.cons rfl (fun K hK => ?_) AllReadyH.nil
        go_simp
        go_at_call 19
        refine (HSA.out _).mono ?_
        rintro e wt33 ⟨rfl, hb⟩
        have HB33 := Lib.hid (HB32.out.trans (hb.mono HB32.out.size))
        have HX33 := Lib.hid (HX32.out.below hb (ylt HX32.out))
        have HY33 := Lib.hid (HY32.out.below hb (ylt HY32.out))
        clear hb
        go_wp2_with fail
        refine hK.out _ _ (HS.out _ HB33.out) (fun hHeld => ?_)
        clear hK K hHeld
        try simp only [Act.put, List.setIfInBounds_toArray, List.set_cons_zero, List.set_cons_succ]
        refine wpAnyH_ready (rs := [5]) (by decide +kernel) (by simp) ?_
        refine AllReadyH.cons rfl (fun K hK => ?_) AllReadyH.nil
        go_simp
        go_at_call 19
        refine (HSB.out _).mono ?_
        rintro e wt34 ⟨rfl, hb⟩
        have HB34 := Lib.hid (HB33.out.trans (hb.mono HB33.out.size))
        have HX34 := Lib.hid (HX33.out.below hb (ylt HX33.out))
        have HY34 := Lib.hid (HY33.out.below hb (ylt HY33.out))
        clear hb
        go_wp2_with fail
        refine hK.out _ _ (HS.out _ HB34.out) (fun hHeld => ?_)
        clear hK K hHeld
        try simp only [Act.put, List.setIfInBounds_toArray, List.set_cons_zero, List.set_cons_succ]
        refine wpAnyH_ready (rs := [8]) (by decide +kernel) (by simp) ?_
        refine AllReadyH.cons get8of10 (fun K hK => ?_) AllReadyH.nil
        rw [if_pos (by kernel_rfl)]
        refine wp_store_row (o := ⟨none, .store _ (.tmp 7) _, _, _, _, _⟩) 30 _ _ rfl (wb26.heap.size) (yvs SA) rfl rfl 30 (yvs (zeroY 16)) (show wt34.heap[wb26.heap.size]? = _ from HX34.out) ISA.out ESA.out (yvs_one _) ?_
        refine hK.out _ _ (HS.out _ (ybelow_row HB34.out HNX32.out _)) (fun hHeld => ?_)
        clear hK K hHeld
        simp only [Act.put]
        refine wpAnyH_ready (rs := [9]) (by decide +kernel) (by simp) ?_
        refine AllReadyH.cons get9of10 (fun K hK => ?_) AllReadyH.nil
        rw [if_pos (by kernel_rfl)]
        refine wp_store_row (o := ⟨none, .store _ (.tmp 8) _, _, _, _, _⟩) 30 _ _ rfl (W3.drew.heap.size) (yvs SB) rfl rfl 30 (yvs (zeroY 16)) (show (wt34.setRow wb26.heap.size (yvs SA)).heap[W3.drew.heap.size]? = _ from ((setRow_other _ _ _ _ (Ne.symm (Ne.symm NE32.out))).trans HY34.out)) ISB.out ESB.out (yvs_one _) ?_
        refine hK.out _ _ (HS.out _ (ybelow_row (ybelow_row HB34.out HNX32.out (yvs SA)) HNY26.out _)) (fun hHeld => ?_)
        clear hK K hHeld
        simp only [Act.put]
        refine wpAnyH_done (by decide +kernel) ?_ _
        refine NoPanic.normal ?_
        go_wp2_with fail
        go_meet
        exact ⟨wb26.heap.size, W3.drew.heap.size, rfl, rfl, (setRow_other _ _ _ _ (Ne.symm NE32.out)).trans (setRow_heap _ _ _ _ _ _ HX34.out), setRow_heap _ _ _ _ _ _ ((setRow_other _ _ _ _ (Ne.symm (Ne.symm NE32.out))).trans HY34.out), ybelow_row (ybelow_row HB34.out HNX32.out _) HNY26.out _⟩
  case rest =>
    obtain ⟨X, Y, rfl, rfl, hX, hY, hbc⟩ := hcut
    have HBC := Lib.hid hbc
    have HS2 := Lib.hid (show ∀ W, Below wc.heap.size wc W → W.rangeAt w.heap.size 0 (yvs x0).toList ∧ W.rangeAt (w.heap.size + 1) 0 (yvs x1).toList ∧ W.rangeAt (w.heap.size + 1 + 1) 0 (yvs x2).toList ∧ W.rangeAt X 0 (yvs SA).toList ∧ W.rangeAt Y 0 (yvs SB).toList from fun W hW =>
      ⟨(HS.out W (hbc.trans (hW.mono hbc.size))).1, (HS.out W (hbc.trans (hW.mono hbc.size))).2.1, (HS.out W (hbc.trans (hW.mono hbc.size))).2.2, (hX.below hW (ylt hX)).all, (hY.below hW (ylt hY)).all⟩)
    clear hX hY hbc
    go_wp2_with fail
    refine wp_region_noPanic ?_
    refine wp_region_held_drew (S := fun w' => w'.rangeAt w.heap.size 0 (yvs x0).toList ∧ w'.rangeAt (w.heap.size + 1) 0 (yvs x1).toList ∧ w'.rangeAt (w.heap.size + 1 + 1) 0 (yvs x2).toList ∧ w'.rangeAt X 0 (yvs SA).toList ∧ w'.rangeAt Y 0 (yvs SB).toList) (by kernel_rfl) (HS2.out _ (Below.refl _ wc).drew) (fun hHeld => ?_)
    have HB0 := Lib.hid (Below.refl wc.heap.size wc).drew
    refine wpAnyH_take (i := 0) (oi := ⟨some 17, _, _, _, _, _⟩) rfl (by kernel_rfl) (by decide +kernel) (by decide +kernel) (fun _ _ _ h => h) (yieldsIf_load_mid (by rfl) _ _ rfl (w.heap.size) 0 rfl (yvs x0).toList _ (fun w' h => h.1) Try.underlying26 rfl IK.out) (by assumption) ?_
    try simp only [Act.put, List.setIfInBounds_toArray, List.set_cons_zero, List.set_cons_succ, Array.toArray_toList]
    refine wpAnyH_take (i := 1) (oi := ⟨some 18, _, _, _, _, _⟩) rfl (by kernel_rfl) (by decide +kernel) (by decide +kernel) (fun _ _ _ h => h) (yieldsIf_load_mid (by rfl) _ _ rfl (X) 0 rfl (yvs SA).toList _ (fun w' h => h.2.2.2.1) Try.underlying30 rfl ISA.out) (by assumption) ?_
    try simp only [Act.put, List.setIfInBounds_toArray, List.set_cons_zero, List.set_cons_succ, Array.toArray_toList]
    refine wpAnyH_take (i := 3) (oi := ⟨some 20, _, _, _, _, _⟩) rfl (by kernel_rfl) (by decide +kernel) (by decide +kernel) (fun _ _ _ h => h) (yieldsIf_load_mid (by rfl) _ _ rfl (w.heap.size + 1) 0 rfl (yvs x1).toList _ (fun w' h => h.2.1) Try.underlying27 rfl IA.out) (by assumption) ?_
    try simp only [Act.put, List.setIfInBounds_toArray, List.set_cons_zero, List.set_cons_succ, Array.toArray_toList]
    refine wpAnyH_ready (rs := [2]) (by decide +kernel) (by simp) ?_
    refine AllReadyH.cons rfl (fun K hK => ?_) AllReadyH.nil
    go_simp
    go_at_call 21
    refine (HOX.out _).mono ?_
    rintro e w8 ⟨rfl, hb⟩
    have Qw8 := Lib.hid (HB0.out.trans (hb.mono HB0.out.size))
    clear hb hHeld
    go_wp2_with fail
    refine hK.out _ _ (HS2.out _ Qw8.out) (fun hHeld => ?_)
    clear hK K
    try simp only [Act.put, List.setIfInBounds_toArray, List.set_cons_zero, List.set_cons_succ]
    have hq := HQA.out
    refine wpAnyH_take (i := 4) (oi := ⟨some 21, _, _, _, _, _⟩) (v := ?_) rfl (by kernel_rfl) (by decide +kernel) (by decide +kernel) (fun _ _ _ h => h) (Or.inl ⟨by rfl, ?_⟩) (by assumption) ?_
    rotate_left 1
    · (intro w' hSw; go_simp; try with_reducible rfl)
    try simp only [Act.put, List.setIfInBounds_toArray, List.set_cons_zero, List.set_cons_succ]
    refine wpAnyH_take (i := 5) (oi := ⟨some 22, _, _, _, _, _⟩) (v := ?_) rfl (by kernel_rfl) (by decide +kernel) (by decide +kernel) (fun _ _ _ h => h) (Or.inl ⟨by rfl, ?_⟩) (by assumption) ?_
    rotate_left 1
    · (intro w' hSw; go_simp; try with_reducible rfl)
    try simp only [Act.put, List.setIfInBounds_toArray, List.set_cons_zero, List.set_cons_succ]
    clear hq
    refine wpAnyH_take (i := 6) (oi := ⟨some 23, _, _, _, _, _⟩) rfl (by kernel_rfl) (by decide +kernel) (by decide +kernel) (fun _ _ _ h => h) (yieldsIf_load_mid (by rfl) _ _ rfl (w.heap.size) 0 rfl (yvs x0).toList _ (fun w' h => h.1) Try.underlying26 rfl IK.out) (by assumption) ?_
    try simp only [Act.put, List.setIfInBounds_toArray, List.set_cons_zero, List.set_cons_succ, Array.toArray_toList]
    refine wpAnyH_take (i := 7) (oi := ⟨some 24, _, _, _, _, _⟩) rfl (by kernel_rfl) (by decide +kernel) (by decide +kernel) (fun _ _ _ h => h) (yieldsIf_load_mid (by rfl) _ _ rfl (w.heap.size) 0 rfl (yvs x0).toList _ (fun w' h => h.1) Try.underlying26 rfl IK.out) (by assumption) ?_
    try simp only [Act.put, List.setIfInBounds_toArray, List.set_cons_zero, List.set_cons_succ, Array.toArray_toList]
    refine wpAnyH_take (i := 8) (oi := ⟨some 25, _, _, _, _, _⟩) rfl (by kernel_rfl) (by decide +kernel) (by decide +kernel) (fun _ _ _ h => h) (yieldsIf_load_mid (by rfl) _ _ rfl (w.heap.size + 1) 0 rfl (yvs x1).toList _ (fun w' h => h.2.1) Try.underlying27 rfl IA.out) (by assumption) ?_
    try simp only [Act.put, List.setIfInBounds_toArray, List.set_cons_zero, List.set_cons_succ, Array.toArray_toList]
    refine wpAnyH_take (i := 11) (oi := ⟨some 28, _, _, _, _, _⟩) rfl (by kernel_rfl) (by decide +kernel) (by decide +kernel) (fun _ _ _ h => h) (yieldsIf_load_mid (by rfl) _ _ rfl (w.heap.size + 1) 0 rfl (yvs x1).toList _ (fun w' h => h.2.1) Try.underlying27 rfl IA.out) (by assumption) ?_
    try simp only [Act.put, List.setIfInBounds_toArray, List.set_cons_zero, List.set_cons_succ, Array.toArray_toList]
    refine wpAnyH_ready (rs := [9]) (by decide +kernel) (by simp) ?_
    refine AllReadyH.cons rfl (fun K hK => ?_) AllReadyH.nil
    go_simp
    go_at_call 21
    refine (HOA.out _).mono ?_
    rintro e w9 ⟨rfl, hb⟩
    have Qw9 := Lib.hid (Qw8.out.trans (hb.mono Qw8.out.size))
    clear hb hHeld
    go_wp2_with fail
    refine hK.out _ _ (HS2.out _ Qw9.out) (fun hHeld => ?_)
    clear hK K
    try simp only [Act.put, List.setIfInBounds_toArray, List.set_cons_zero, List.set_cons_succ]
    refine wpAnyH_ready (rs := [10]) (by decide +kernel) (by simp) ?_
    refine AllReadyH.cons rfl (fun K hK => ?_) AllReadyH.nil
    go_simp
    go_at_call 19
    refine (HSO.out _).mono ?_
    rintro e w10 ⟨rfl, hb⟩
    have Qw10 := Lib.hid (Qw9.out.trans (hb.mono Qw9.out.size))
    clear hb hHeld
    go_wp2_with fail
    refine hK.out _ _ (HS2.out _ Qw10.out) (fun hHeld => ?_)
    clear hK K
    try simp only [Act.put, List.setIfInBounds_toArray, List.set_cons_zero, List.set_cons_succ]
    have hq := HQA.out
    refine wpAnyH_take (i := 12) (oi := ⟨some 29, _, _, _, _, _⟩) (v := ?_) rfl (by kernel_rfl) (by decide +kernel) (by decide +kernel) (fun _ _ _ h => h) (Or.inl ⟨by rfl, ?_⟩) (by assumption) ?_
    rotate_left 1
    · (intro w' hSw; go_simp; try with_reducible rfl)
    try simp only [Act.put, List.setIfInBounds_toArray, List.set_cons_zero, List.set_cons_succ]
    refine wpAnyH_take (i := 13) (oi := ⟨some 30, _, _, _, _, _⟩) (v := ?_) rfl (by kernel_rfl) (by decide +kernel) (by decide +kernel) (fun _ _ _ h => h) (Or.inl ⟨by rfl, ?_⟩) (by assumption) ?_
    rotate_left 1
    · (intro w' hSw; go_simp; try with_reducible rfl)
    try simp only [Act.put, List.setIfInBounds_toArray, List.set_cons_zero, List.set_cons_succ]
    refine wpAnyH_take (i := 14) (oi := ⟨some 31, _, _, _, _, _⟩) (v := ?_) rfl (by kernel_rfl) (by decide +kernel) (by decide +kernel) (fun _ _ _ h => h) (Or.inl ⟨by rfl, ?_⟩) (by assumption) ?_
    rotate_left 1
    · (intro w' hSw; go_simp; try with_reducible rfl)
    try simp only [Act.put, List.setIfInBounds_toArray, List.set_cons_zero, List.set_cons_succ]
    clear hq
    refine wpAnyH_take (i := 15) (oi := ⟨some 32, _, _, _, _, _⟩) rfl (by kernel_rfl) (by decide +kernel) (by decide +kernel) (fun _ _ _ h => h) (yieldsIf_load_mid (by rfl) _ _ rfl (X) 0 rfl (yvs SA).toList _ (fun w' h => h.2.2.2.1) Try.underlying30 rfl ISA.out) (by assumption) ?_
    try simp only [Act.put, List.setIfInBounds_toArray, List.set_cons_zero, List.set_cons_succ, Array.toArray_toList]
    refine wpAnyH_take (i := 16) (oi := ⟨some 33, _, _, _, _, _⟩) rfl (by kernel_rfl) (by decide +kernel) (by decide +kernel) (fun _ _ _ h => h) (yieldsIf_load_mid (by rfl) _ _ rfl (Y) 0 rfl (yvs SB).toList _ (fun w' h => h.2.2.2.2) Try.underlying30 rfl ISB.out) (by assumption) ?_
    try simp only [Act.put, List.setIfInBounds_toArray, List.set_cons_zero, List.set_cons_succ, Array.toArray_toList]
    have hq := HQX.out
    refine wpAnyH_take (i := 17) (oi := ⟨some 34, _, _, _, _, _⟩) (v := ?_) rfl (by kernel_rfl) (by decide +kernel) (by decide +kernel) (fun _ _ _ h => h) (Or.inl ⟨by rfl, ?_⟩) (by assumption) ?_
    rotate_left 1
    · (intro w' hSw; go_simp; try with_reducible rfl)
    try simp only [Act.put, List.setIfInBounds_toArray, List.set_cons_zero, List.set_cons_succ]
    clear hq
    refine wpAnyH_take (i := 18) (oi := ⟨some 35, _, _, _, _, _⟩) rfl (by kernel_rfl) (by decide +kernel) (by decide +kernel) (fun _ _ _ h => h) (yieldsIf_load_mid (by rfl) _ _ rfl (w.heap.size + 1) 0 rfl (yvs x1).toList _ (fun w' h => h.2.1) Try.underlying27 rfl IA.out) (by assumption) ?_
    try simp only [Act.put, List.setIfInBounds_toArray, List.set_cons_zero, List.set_cons_succ, Array.toArray_toList]
    refine wpAnyH_take (i := 19) (oi := ⟨some 36, _, _, _, _, _⟩) rfl (by kernel_rfl) (by decide +kernel) (by decide +kernel) (fun _ _ _ h => h) (yieldsIf_load_mid (by rfl) _ _ rfl (w.heap.size + 1 + 1) 0 rfl (yvs x2).toList _ (fun w' h => h.2.2.1) Try.underlying27 rfl IB.out) (by assumption) ?_
    try simp only [Act.put, List.setIfInBounds_toArray, List.set_cons_zero, List.set_cons_succ, Array.toArray_toList]
    have hq := HQB.out
    refine wpAnyH_take (i := 20) (oi := ⟨some 37, _, _, _, _, _⟩) (v := ?_) rfl (by kernel_rfl) (by decide +kernel) (by decide +kernel) (fun _ _ _ h => h) (Or.inl ⟨by rfl, ?_⟩) (by assumption) ?_
    rotate_left 1
    · (intro w' hSw; go_simp; try with_reducible rfl)
    try simp only [Act.put, List.setIfInBounds_toArray, List.set_cons_zero, List.set_cons_succ]
    clear hq
    refine wpAnyH_take (i := 21) (oi := ⟨some 38, _, _, _, _, _⟩) (v := ?_) rfl (by kernel_rfl) (by decide +kernel) (by decide +kernel) (fun _ _ _ h => h) (Or.inl ⟨by rfl, ?_⟩) (by assumption) ?_
    rotate_left 1
    · (intro w' hSw; go_simp; try with_reducible rfl)
    try simp only [Act.put, List.setIfInBounds_toArray, List.set_cons_zero, List.set_cons_succ]
    refine wpAnyH_take (i := 22) (oi := ⟨some 39, _, _, _, _, _⟩) (v := ?_) rfl (by kernel_rfl) (by decide +kernel) (by decide +kernel) (fun _ _ _ h => h) (Or.inl ⟨by rfl, ?_⟩) (by assumption) ?_
    rotate_left 1
    · (intro w' hSw; go_simp; try with_reducible rfl)
    try simp only [Act.put, List.setIfInBounds_toArray, List.set_cons_zero, List.set_cons_succ]
    refine wpAnyH_take (i := 23) (oi := ⟨some 6, _, _, _, _, _⟩) (v := ?_) rfl (by kernel_rfl) (by decide +kernel) (by decide +kernel) (fun _ _ _ h => h) (Or.inl ⟨by rfl, ?_⟩) (by assumption) ?_
    rotate_left 1
    · (intro w' hSw; go_simp; try with_reducible rfl)
    try simp only [Act.put, List.setIfInBounds_toArray, List.set_cons_zero, List.set_cons_succ]
    refine wpAnyH_done (by decide +kernel) ?_ _
    refine NoPanic.normal ?_
    go_wp2_with fail
    go_ret
    exact ⟨by simp, HBW.out.trans ((HBC.out.trans (Qw10.out.mono HBC.out.size)).mono HZW.out)⟩
set_option maxRecDepth 100000 in
theorem lifted (os : Os) (started : os.Started) (H : Type) (enc : TypeId × Value → H) :
    ReturnsInHanded {} Try.checked os 5 .any (Rows.aesBackSpec.pre6 enc Try.prog Try.f5 Rows.aesBackRow.domain false) (Rows.aesBackSpec.post enc Try.prog Try.f5 false true false false) := by
  refine returnsInHanded_of_change (C := Try.checked) own started (by kernel_rfl) Try.func5
    (ChangeSpec.witness6 (enc := enc) (C := Try.checked) false ⟨#[], #[.agg (Array.replicate 32 (.int .u8 0)), .agg (Array.replicate 16 (.int .u8 0)), .agg (Array.replicate 16 (.int .u8 0))], []⟩ 8 (by kernel_rfl) (by kernel_rfl) (by kernel_rfl) (by kernel_rfl)) ?_
  intro W base args ds gs before hval0 hW hcnd _
  have hval : ∀ (j : Nat) t v, Try.f5.params[j]? = some t → args[j]? = some v → Value.okWide Try.prog W .any base t v := hval0
  have hW' := hW
  obtain ⟨p, q, hA0, hV, rfl, hfz, hnd⟩ := hW
  have hA : DataW.TrodAll enc Try.prog W 0 (fun _ => true) true Try.f5.params.toList args.toList ds p := hA0
  rw [Try.params5] at hA hval
  obtain ⟨v0, vs0, d0, ds0, p0, q0, hargs, rfl, rfl, h0, r0⟩ := trodAll_cons hA
  obtain ⟨v1, vs1, d1, ds1, p1, q1, rfl, rfl, rfl, h1, r1⟩ := trodAll_cons r0
  obtain ⟨v2, vs2, d2, ds2, p2, q2, rfl, rfl, rfl, h2, r2⟩ := trodAll_cons r1
  obtain ⟨rfl, rfl, rfl⟩ := trodAll_nil r2
  obtain rfl : args = #[v0, v1, v2] := by cases args; simp_all
  obtain ⟨rfl, rfl⟩ := trodVars_none hV
  have k0 := h0
  have lt0 : ∀ x ∈ p0, x.block < W.heap.size := by obtain ⟨m, hm⟩ := k0; exact DataW.trod_lt m _ _ _ hm
  have k1 := h1
  have lt1 : ∀ x ∈ p1, x.block < W.heap.size := by obtain ⟨m, hm⟩ := k1; exact DataW.trod_lt m _ _ _ hm
  have k2 := h2
  have lt2 : ∀ x ∈ p2, x.block < W.heap.size := by obtain ⟨m, hm⟩ := k2; exact DataW.trod_lt m _ _ _ hm
  obtain ⟨x0, rfl, hx0⟩ := open_yrow Try.underlying26 (by kernel_rfl) (by decide) h0
  obtain ⟨x1, rfl, hx1⟩ := open_yrow Try.underlying27 (by kernel_rfl) (by decide) h1
  obtain ⟨x2, rfl, hx2⟩ := open_yrow Try.underlying27 (by kernel_rfl) (by decide) h2
  clear hA0 hval0
  simp only [List.append_nil] at hW'
  refine (walk x0 hx0 x1 hx1 x2 hx2 W).mono fun e W' ⟨he, bel⟩ => ?_
  subst he
  exact ⟨_, rfl, _, _, _, [], _, [], hW', trodAll_mk1 (shut_bool Try.underlying4 _), (trodAll_cons_mk (Below.trod laidOut (by kernel_rfl) (of_decide_eq_true (by kernel_rfl)) k0 bel lt0) (trodAll_cons_mk (Below.trod laidOut (by kernel_rfl) (of_decide_eq_true (by kernel_rfl)) k1 bel lt1) (trodAll_cons_mk (Below.trod laidOut (by kernel_rfl) (of_decide_eq_true (by kernel_rfl)) k2 bel lt2) trodAll_mk0))), rfl, bel.frame _, fun h => by cases h⟩

theorem over : Rows.aesBackRow.holds Try.pinned (OpenSpec.ofChange Rows.aesBackSpec) :=
  OpenClaim.holds_of_wide 5 Try.f5 rfl rfl rfl rfl rfl rfl rfl ⟨rfl, rfl, rfl, rfl, rfl⟩ rfl rfl rfl rfl rfl (by kernel_rfl) Try.func5 (by kernel_rfl)
    (of_decide_eq_true (by kernel_rfl)) (by unfold Func.isWrapper; first | (rw [if_pos (by decide +kernel)]; kernel_rfl) | (rw [if_neg (by decide +kernel)]; exact ⟨rfl, rfl⟩))
    (fun os started H enc _ => lifted os started H enc)

/-- The statement. -/
theorem proved : Rows.AesBackSaid := over
#print axioms proved
end Go.Proofs.Ytnflbagplljjlaa.aesBack
