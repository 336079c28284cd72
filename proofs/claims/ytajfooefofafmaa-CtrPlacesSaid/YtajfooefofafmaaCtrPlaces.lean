/-
  'CtrPlaces' returns true at every input, and each argument reads behind the call as it read before. Conditions: none.
-/
import Derived.Test.YtajfooefofafmaaRows
import Derived.Test.YtajfooefofafmaaYLaid
import Derived.Test.YtajfooefofafmaaCOpen
import Derived.Test.YtajfooefofafmaaCUse
import Derived.Deep.CutRange
namespace Go.Proofs.Ytajfooefofafmaa.ctrPlaces
open Go.ChangeShapes Go.WideShapes Go.ChangeAt Go.RowKit
set_option linter.unusedVariables false


set_option maxRecDepth 100000 in
set_option maxHeartbeats 3200000 in
theorem walk (w : World) (k : List (BitVec 8)) (m : List (BitVec 8)) (x : Nat) (y : Nat) (hk : k.length = 32) (hm : m.length = 12) (hx : x < 65536) (hy : y < 65536) :
    Calls Try.prog 6 #[.agg (placeCells k m x y)] w fun e w' => e = .returned (.bool true) ∧ Below w.heap.size w w' := by
  have HkL := Lib.hid hk
  have HmL := Lib.hid hm
  have Sk := Lib.hid (size_k32 k hk)
  have Sm := Lib.hid (size_n12 m hm)
  have Ik := Lib.hid (show (Try.prog.info? 22).map (·.size) = some (yvs k).toList.length by rw [Array.length_toList]; exact Sk.out)
  have Im := Lib.hid (show (Try.prog.info? 29).map (·.size) = some (yvs m).toList.length by rw [Array.length_toList]; exact Sm.out)
  have Ek := Lib.hid (show (yvs (zeroY 32)).size = (yvs k).size by rw [yvs_size, yvs_size, hk]; simp [zeroY])
  have Ak := Lib.hid (show (Try.prog.info? 22).map (·.size) = some (yvs k).size by rw [show (Try.prog.info? 22).map (·.size) = some 32 by kernel_rfl, yvs_size, hk])
  have Em := Lib.hid (show (yvs (zeroY 12)).size = (yvs m).size by rw [yvs_size, yvs_size, hm]; simp [zeroY])
  have Am := Lib.hid (show (Try.prog.info? 29).map (·.size) = some (yvs m).size by rw [show (Try.prog.info? 29).map (·.size) = some 12 by kernel_rfl, yvs_size, hm])
  clear hk hm
  have XI := Lib.hid (And.intro hx hy)
  clear hx hy
  go_enter Try.func6, Try.ntmps6
  go_wp2_with fail
  have hA0 := heap_alloc_new w (.cells (placeCells k m x y) 50)
  have hB0 := (Below.refl w.heap.size w).alloc (Nat.le_refl _) (.cells (placeCells k m x y) 50)
  refine (alive5_any _).mono ?_
  rintro e w1 ⟨rfl, hb1⟩
  have hA1 := (hb1.block w.heap.size (by simp)).trans hA0
  have HBW1 := Lib.hid (hB0.trans (hb1.mono hB0.size))
  have HLT1 := Lib.hid (show w.heap.size < w1.heap.size by have := hb1.size; simp at this; omega)
  have HS := Lib.hid (show ∀ W, Below w1.heap.size w1 W → W.rangeAt w.heap.size 0 (yvs k).toList ∧ W.rangeAt w.heap.size 32 (yvs m).toList ∧ W.cell? ⟨w.heap.size, 44, none⟩ = some (Value.int .u16 (x : Int)) ∧ W.cell? ⟨w.heap.size, 45, none⟩ = some (Value.int .u16 (y : Int)) from fun W hW => place_at ((hW.block _ HLT1.out).trans hA1) HkL.out HmL.out)
  clear hA0 hB0 hb1 hA1
  go_upto_region 3 with (fail)
  go_cut [3, 4, 5, 6] from 7 (fun v3 v4 v5 v6 wc => ∃ X Y, v3 = .pointer (some ⟨X, 0, none⟩) ∧ v4 = .pointer (some ⟨Y, 0, none⟩) ∧ v5 = .int .u16 (x : Int) ∧ v6 = .int .u16 (y : Int) ∧ ArrY wc X 22 k ∧ ArrY wc Y 29 m ∧ Below w1.heap.size w1 wc)
  case first =>
    try simp only [Act.put]
    refine wp_region_noPanic ?_
    refine wp_region_held_drew (S := fun W => W.rangeAt w.heap.size 0 (yvs k).toList ∧ W.rangeAt w.heap.size 32 (yvs m).toList ∧ W.cell? ⟨w.heap.size, 44, none⟩ = some (Value.int .u16 (x : Int)) ∧ W.cell? ⟨w.heap.size, 45, none⟩ = some (Value.int .u16 (y : Int))) (by kernel_rfl) (HS.out _ (Below.refl _ w1).drew) (fun hHeld => ?_)
    refine wpAnyH_take (i := 0) (oi := ⟨some 17, _, _, _, _, _⟩) (v := ?_) rfl (by kernel_rfl) (by decide +kernel) (by decide +kernel) (fun _ _ _ h => h) (Or.inl ⟨by rfl, ?_⟩) (by assumption) ?_
    rotate_left 1
    · (intro w' hSw; go_simp; try with_reducible rfl)
    try simp only [Act.put, List.setIfInBounds_toArray, List.set_cons_zero, List.set_cons_succ]
    refine wpAnyH_take (i := 1) (oi := ⟨some 18, _, _, _, _, _⟩) rfl (by kernel_rfl) (by decide +kernel) (by decide +kernel) (fun _ _ _ h => h) (yieldsIf_load_mid (by rfl) _ _ rfl (w.heap.size) (0) rfl (yvs k).toList _ (fun w' h => h.1) Try.underlying22 rfl Ik.out) (by assumption) ?_
    try simp only [Act.put, List.setIfInBounds_toArray, List.set_cons_zero, List.set_cons_succ, Array.toArray_toList]
    refine wpAnyH_take (i := 2) (oi := ⟨some 19, _, _, _, _, _⟩) (v := ?_) rfl (by kernel_rfl) (by decide +kernel) (by decide +kernel) (fun _ _ _ h => h) (Or.inl ⟨by rfl, ?_⟩) (by assumption) ?_
    rotate_left 1
    · (intro w' hSw; go_simp; try with_reducible rfl)
    try simp only [Act.put, List.setIfInBounds_toArray, List.set_cons_zero, List.set_cons_succ]
    refine wpAnyH_take (i := 3) (oi := ⟨some 20, _, _, _, _, _⟩) rfl (by kernel_rfl) (by decide +kernel) (by decide +kernel) (fun _ _ _ h => h) (yieldsIf_load_mid (by rfl) _ _ rfl (w.heap.size) (32) rfl (yvs m).toList _ (fun w' h => h.2.1) Try.underlying29 rfl Im.out) (by assumption) ?_
    try simp only [Act.put, List.setIfInBounds_toArray, List.set_cons_zero, List.set_cons_succ, Array.toArray_toList]
    refine wpAnyH_take (i := 4) (oi := ⟨some 21, _, _, _, _, _⟩) (v := ?_) rfl (by kernel_rfl) (by decide +kernel) (by decide +kernel) (fun _ _ _ h => h) (Or.inl ⟨by rfl, ?_⟩) (by assumption) ?_
    rotate_left 1
    · (intro w' hSw; go_simp; try with_reducible rfl)
    try simp only [Act.put, List.setIfInBounds_toArray, List.set_cons_zero, List.set_cons_succ]
    refine wpAnyH_take (i := 5) (oi := ⟨some 22, _, _, _, _, _⟩) (v := ?_) rfl (by kernel_rfl) (by decide +kernel) (by decide +kernel) (fun _ _ _ h => h) (Or.inl ⟨by rfl, ?_⟩) (by assumption) ?_
    rotate_left 1
    · (intro w' hSw; have hcell := hSw.2.2.1; clear hSw; go_simp; try with_reducible rfl)
    try simp only [Act.put, List.setIfInBounds_toArray, List.set_cons_zero, List.set_cons_succ]
    refine wpAnyH_take (i := 6) (oi := ⟨some 23, _, _, _, _, _⟩) (v := ?_) rfl (by kernel_rfl) (by decide +kernel) (by decide +kernel) (fun _ _ _ h => h) (Or.inl ⟨by rfl, ?_⟩) (by assumption) ?_
    rotate_left 1
    · (intro w' hSw; go_simp; try with_reducible rfl)
    try simp only [Act.put, List.setIfInBounds_toArray, List.set_cons_zero, List.set_cons_succ]
    refine wpAnyH_take (i := 7) (oi := ⟨some 24, _, _, _, _, _⟩) (v := ?_) rfl (by kernel_rfl) (by decide +kernel) (by decide +kernel) (fun _ _ _ h => h) (Or.inl ⟨by rfl, ?_⟩) (by assumption) ?_
    rotate_left 1
    · (intro w' hSw; have hcell := hSw.2.2.2; clear hSw; go_simp; try with_reducible rfl)
    try simp only [Act.put, List.setIfInBounds_toArray, List.set_cons_zero, List.set_cons_succ]
    clear hHeld
    have HB0 := Lib.hid (Below.refl w1.heap.size w1).drew
    refine wpAnyH_ready (rs := [8, 9]) (by decide +kernel) (by simp) ?_
    refine AllReadyH.cons rfl (fun K hK => ?_) (AllReadyH.cons rfl (fun K hK => ?_) AllReadyH.nil)
    · go_simp
      have hal := HB0.out.alloc HB0.out.size (.cells (yvs (zeroY 32)) 22)
      have hxl := heap_alloc_new (w1.drew) (.cells (yvs (zeroY 32)) 22)
      have hst := (Below.refl (w1.drew).heap.size (w1.drew)).alloc (Nat.le_refl _) (.cells (yvs (zeroY 32)) 22)
      refine hK.out _ _ (HS.out _ hal) (fun hHeld => ?_)
      clear hK K hHeld
      try simp only [Act.put, List.setIfInBounds_toArray, List.set_cons_zero, List.set_cons_succ]
      refine (show ∀ wb1 : World, wb1 = (w1.drew).alloc (.cells (yvs (zeroY 32)) 22) → _ from ?_) _ rfl
      intro wb1 ew
      rw [← ew] at hal hxl hst
      have HB1 := Lib.hid hal
      have HX1 := Lib.hid (show ArrY wb1 (w1.drew).heap.size 22 (zeroY 32) from hxl)
      have HNX1 := Lib.hid HB0.out.size
      clear ew hal hxl hst
      refine wpAnyH_ready (rs := [9]) (by decide +kernel) (by simp) ?_
      refine AllReadyH.cons rfl (fun K hK => ?_) AllReadyH.nil
      go_simp
      have hal := HB1.out.alloc HB1.out.size (.cells (yvs (zeroY 12)) 29)
      have hxl := heap_alloc_new (wb1) (.cells (yvs (zeroY 12)) 29)
      have hst := (Below.refl (wb1).heap.size (wb1)).alloc (Nat.le_refl _) (.cells (yvs (zeroY 12)) 29)
      refine hK.out _ _ (HS.out _ hal) (fun hHeld => ?_)
      clear hK K hHeld
      try simp only [Act.put, List.setIfInBounds_toArray, List.set_cons_zero, List.set_cons_succ]
      refine (show ∀ wb2 : World, wb2 = (wb1).alloc (.cells (yvs (zeroY 12)) 29) → _ from ?_) _ rfl
      intro wb2 ew
      rw [← ew] at hal hxl hst
      have HX2 := Lib.hid (HX1.out.below hst (zlt HX1.out))
      have NEXY2 := Lib.hid (show (w1.drew).heap.size ≠ (wb1).heap.size from Nat.ne_of_lt (zlt HX1.out))
      have HB2 := Lib.hid hal
      have HY2 := Lib.hid (show ArrY wb2 (wb1).heap.size 29 (zeroY 12) from hxl)
      have HNY2 := Lib.hid HB1.out.size
      clear ew hal hxl hst
      refine wpAnyH_ready (rs := [10]) (by decide +kernel) (by simp) ?_
      refine AllReadyH.cons rfl (fun K hK => ?_) AllReadyH.nil
      rw [if_pos (by kernel_rfl)]
      refine wp_store_row (o := ⟨none, .store _ (.tmp 3) _, _, _, _, _⟩) 22 _ _ rfl ((w1.drew).heap.size) (yvs k) rfl rfl 22 (yvs (zeroY 32)) (show (wb2).heap[(w1.drew).heap.size]? = _ from HX2.out) Ak.out Ek.out (yvs_one _) ?_
      refine hK.out _ _ (HS.out _ (ybelow_row HB2.out HNX1.out (yvs k))) (fun hHeld => ?_)
      clear hK K hHeld
      simp only [Act.put]
      refine wpAnyH_ready (rs := [11]) (by decide +kernel) (by simp) ?_
      refine AllReadyH.cons rfl (fun K hK => ?_) AllReadyH.nil
      rw [if_pos (by kernel_rfl)]
      refine wp_store_row (o := ⟨none, .store _ (.tmp 4) _, _, _, _, _⟩) 29 _ _ rfl ((wb1).heap.size) (yvs m) rfl rfl 29 (yvs (zeroY 12)) (show (((wb2).setRow ((w1.drew).heap.size) (yvs k))).heap[(wb1).heap.size]? = _ from ((setRow_other _ _ _ _ (Ne.symm NEXY2.out)).trans HY2.out)) Am.out Em.out (yvs_one _) ?_
      refine hK.out _ _ (HS.out _ (ybelow_row (ybelow_row HB2.out HNX1.out (yvs k)) HNY2.out (yvs m))) (fun hHeld => ?_)
      clear hK K hHeld
      simp only [Act.put]
      have hHeld := HS.out _ (ybelow_row (ybelow_row HB2.out HNX1.out (yvs k)) HNY2.out (yvs m))
      refine wpAnyH_take (i := 12) (oi := ⟨some 5, _, _, _, _, _⟩) (v := ?_) rfl (by kernel_rfl) (by decide +kernel) (by decide +kernel) (fun _ _ _ h => h) (Or.inl ⟨by rfl, ?_⟩) (by assumption) ?_
      rotate_left 1
      · (intro w' hSw; go_simp; try with_reducible rfl)
      try simp only [Act.put, List.setIfInBounds_toArray, List.set_cons_zero, List.set_cons_succ]
      refine wpAnyH_take (i := 13) (oi := ⟨some 6, _, _, _, _, _⟩) (v := ?_) rfl (by kernel_rfl) (by decide +kernel) (by decide +kernel) (fun _ _ _ h => h) (Or.inl ⟨by rfl, ?_⟩) (by assumption) ?_
      rotate_left 1
      · (intro w' hSw; go_simp; try with_reducible rfl)
      try simp only [Act.put, List.setIfInBounds_toArray, List.set_cons_zero, List.set_cons_succ]
      clear hHeld
      refine wpAnyH_done (by decide +kernel) ?_ _
      refine NoPanic.normal ?_
      go_wp2_with fail
      go_meet
      exact ⟨(w1.drew).heap.size, (wb1).heap.size, rfl, rfl, rfl, rfl, ((setRow_other _ _ _ _ NEXY2.out).trans (setRow_heap _ _ _ (yvs k) _ _ HX2.out)), (setRow_heap _ _ _ (yvs m) _ _ ((setRow_other _ _ _ _ (Ne.symm NEXY2.out)).trans HY2.out)), (ybelow_row (ybelow_row HB2.out HNX1.out (yvs k)) HNY2.out (yvs m))⟩
    · go_simp
      have hal := HB0.out.alloc HB0.out.size (.cells (yvs (zeroY 12)) 29)
      have hxl := heap_alloc_new (w1.drew) (.cells (yvs (zeroY 12)) 29)
      have hst := (Below.refl (w1.drew).heap.size (w1.drew)).alloc (Nat.le_refl _) (.cells (yvs (zeroY 12)) 29)
      refine hK.out _ _ (HS.out _ hal) (fun hHeld => ?_)
      clear hK K hHeld
      try simp only [Act.put, List.setIfInBounds_toArray, List.set_cons_zero, List.set_cons_succ]
      refine (show ∀ wb5 : World, wb5 = (w1.drew).alloc (.cells (yvs (zeroY 12)) 29) → _ from ?_) _ rfl
      intro wb5 ew
      rw [← ew] at hal hxl hst
      have HB5 := Lib.hid hal
      have HY5 := Lib.hid (show ArrY wb5 (w1.drew).heap.size 29 (zeroY 12) from hxl)
      have HNY5 := Lib.hid HB0.out.size
      clear ew hal hxl hst
      refine wpAnyH_ready (rs := [8]) (by decide +kernel) (by simp) ?_
      refine AllReadyH.cons rfl (fun K hK => ?_) AllReadyH.nil
      go_simp
      have hal := HB5.out.alloc HB5.out.size (.cells (yvs (zeroY 32)) 22)
      have hxl := heap_alloc_new (wb5) (.cells (yvs (zeroY 32)) 22)
      have hst := (Below.refl (wb5).heap.size (wb5)).alloc (Nat.le_refl _) (.cells (yvs (zeroY 32)) 22)
      refine hK.out _ _ (HS.out _ hal) (fun hHeld => ?_)
      clear hK K hHeld
      try simp only [Act.put, List.setIfInBounds_toArray, List.set_cons_zero, List.set_cons_succ]
      refine (show ∀ wb6 : World, wb6 = (wb5).alloc (.cells (yvs (zeroY 32)) 22) → _ from ?_) _ rfl
      intro wb6 ew
      rw [← ew] at hal hxl hst
      have HY6 := Lib.hid (HY5.out.below hst (zlt HY5.out))
      have NEYX6 := Lib.hid (show (w1.drew).heap.size ≠ (wb5).heap.size from Nat.ne_of_lt (zlt HY5.out))
      have HB6 := Lib.hid hal
      have HX6 := Lib.hid (show ArrY wb6 (wb5).heap.size 22 (zeroY 32) from hxl)
      have HNX6 := Lib.hid HB5.out.size
      clear ew hal hxl hst
      refine wpAnyH_ready (rs := [10]) (by decide +kernel) (by simp) ?_
      refine AllReadyH.cons rfl (fun K hK => ?_) AllReadyH.nil
      rw [if_pos (by kernel_rfl)]
      refine wp_store_row (o := ⟨none, .store _ (.tmp 3) _, _, _, _, _⟩) 22 _ _ rfl ((wb5).heap.size) (yvs k) rfl rfl 22 (yvs (zeroY 32)) (show (wb6).heap[(wb5).heap.size]? = _ from HX6.out) Ak.out Ek.out (yvs_one _) ?_
      refine hK.out _ _ (HS.out _ (ybelow_row HB6.out HNX6.out (yvs k))) (fun hHeld => ?_)
      clear hK K hHeld
      simp only [Act.put]
      refine wpAnyH_ready (rs := [11]) (by decide +kernel) (by simp) ?_
      refine AllReadyH.cons rfl (fun K hK => ?_) AllReadyH.nil
      rw [if_pos (by kernel_rfl)]
      refine wp_store_row (o := ⟨none, .store _ (.tmp 4) _, _, _, _, _⟩) 29 _ _ rfl ((w1.drew).heap.size) (yvs m) rfl rfl 29 (yvs (zeroY 12)) (show (((wb6).setRow ((wb5).heap.size) (yvs k))).heap[(w1.drew).heap.size]? = _ from ((setRow_other _ _ _ _ NEYX6.out).trans HY6.out)) Am.out Em.out (yvs_one _) ?_
      refine hK.out _ _ (HS.out _ (ybelow_row (ybelow_row HB6.out HNX6.out (yvs k)) HNY5.out (yvs m))) (fun hHeld => ?_)
      clear hK K hHeld
      simp only [Act.put]
      have hHeld := HS.out _ (ybelow_row (ybelow_row HB6.out HNX6.out (yvs k)) HNY5.out (yvs m))
      refine wpAnyH_take (i := 12) (oi := ⟨some 5, _, _, _, _, _⟩) (v := ?_) rfl (by kernel_rfl) (by decide +kernel) (by decide +kernel) (fun _ _ _ h => h) (Or.inl ⟨by rfl, ?_⟩) (by assumption) ?_
      rotate_left 1
      · (intro w' hSw; go_simp; try with_reducible rfl)
      try simp only [Act.put, List.setIfInBounds_toArray, List.set_cons_zero, List.set_cons_succ]
      refine wpAnyH_take (i := 13) (oi := ⟨some 6, _, _, _, _, _⟩) (v := ?_) rfl (by kernel_rfl) (by decide +kernel) (by decide +kernel) (fun _ _ _ h => h) (Or.inl ⟨by rfl, ?_⟩) (by assumption) ?_
      rotate_left 1
      · (intro w' hSw; go_simp; try with_reducible rfl)
      try simp only [Act.put, List.setIfInBounds_toArray, List.set_cons_zero, List.set_cons_succ]
      clear hHeld
      refine wpAnyH_done (by decide +kernel) ?_ _
      refine NoPanic.normal ?_
      go_wp2_with fail
      go_meet
      exact ⟨(wb5).heap.size, (w1.drew).heap.size, rfl, rfl, rfl, rfl, ((setRow_other _ _ _ _ (Ne.symm NEYX6.out)).trans (setRow_heap _ _ _ (yvs k) _ _ HX6.out)), (setRow_heap _ _ _ (yvs m) _ _ ((setRow_other _ _ _ _ NEYX6.out).trans HY6.out)), (ybelow_row (ybelow_row HB6.out HNX6.out (yvs k)) HNY5.out (yvs m))⟩
  case rest =>
    obtain ⟨X, Y, rfl, rfl, rfl, rfl, hX, hY, hbc⟩ := hcut
    have H0 := Lib.hid (show CW w wc X Y k m from ⟨hX, hY, HBW1.out.trans (hbc.mono HBW1.out.size)⟩)
    clear hX hY hbc HS HBW1 HLT1
    obtain ⟨i, hi, hi2⟩ : ∃ i : Nat, (x : Int) % 300 = (i : Int) ∧ i < 300 := ⟨x % 300, by omega, by omega⟩
    obtain ⟨j, hj, hj2⟩ : ∃ j : Nat, (y : Int) % 300 = (j : Int) ∧ j < 300 := ⟨y % 300, by omega, by omega⟩
    obtain ⟨q, hq, hq2⟩ : ∃ q : Nat, (i : Int) + (j : Int) = (q : Int) ∧ i + j = q := ⟨i + j, by omega, rfl⟩
    have xI : (x : Int) < 65536 := by have := XI.out; omega
    have yI : (y : Int) < 65536 := by have := XI.out; omega
    have x0 : (0 : Int) ≤ (x : Int) := by omega
    have y0 : (0 : Int) ≤ (y : Int) := by omega
    have HQ := Lib.hid (And.intro hi2 (And.intro hj2 hq2))
    clear hi2 hj2 hq2
    go_upto_region 5 with fail
    simp only [hi, hj]
    clear hi hj xI yI x0 y0
    have iI : (i : Int) < 300 := by have := HQ.out; omega
    have jI : (j : Int) < 300 := by have := HQ.out; omega
    have HK0 := Lib.hid (show wc.heap[X]? = some (.cells (yvs k) 22 (0, 0)) from H0.out.key)
    have HN0 := Lib.hid (show wc.heap[Y]? = some (.cells (yvs m) 29 (0, 0)) from H0.out.non)
    obtain ⟨T, hT⟩ : ∃ y, keysL k = y := ⟨_, rfl⟩
    have HC5 := Lib.hid (stream_ok k m 0 q wc HkL.out HmL.out (by omega) (by have := HQ.out; omega))
    have HCS := Lib.hid (fun W => stream_ok k m i j W HkL.out HmL.out (by have := HQ.out; omega) (by have := HQ.out; omega))
    have HCC := Lib.hid (fun (W : World) (g : Nat) (h : BS W (.slice (some ⟨g, 0, none⟩) q q) ((zeroY q).map yv)) => crypt_ok k m (zeroY q) (some ⟨g, 0, none⟩) q q W h (by simp [zeroY]) (by have := HQ.out; omega) HkL.out HmL.out)
    have HMK := Lib.hid (make_bytes q (by have := HQ.out; omega))
    rw [hT] at HC5 HCS HCC
    clear hT
    go_wp2_with (first
      | (with_reducible refine wpList_load_row (o := ⟨some 32, _, _, _, _, _⟩) rfl 22 _ rfl X rfl 22 (yvs k) (0, 0) _ HK0.out Try.underlying22 rfl Sk.out ?_)
      | (with_reducible refine wpList_load_row (o := ⟨some 33, _, _, _, _, _⟩) rfl 29 _ rfl Y rfl 29 (yvs m) (0, 0) _ HN0.out Try.underlying29 rfl Sm.out ?_))
    refine HC5.out.mono ?_
    rintro e w5 ⟨rfl, hA5, hb5⟩
    generalize wc.heap.size + 1 + 1 = P5 at *
    have H5 := Lib.hid (H0.out.below hb5)
    have HA5 := Lib.hid hA5
    clear hA5 hb5 H0 HK0 HN0 HC5
    have HK5 := Lib.hid (show w5.heap[X]? = some (.cells (yvs k) 22 (0, 0)) from H5.out.key)
    have HN5 := Lib.hid (show w5.heap[Y]? = some (.cells (yvs m) 29 (0, 0)) from H5.out.non)
    go_wp2_with (first
      | (with_reducible refine wpList_load_row (o := ⟨some 41, _, _, _, _, _⟩) rfl 22 _ rfl X rfl 22 (yvs k) (0, 0) _ HK5.out Try.underlying22 rfl Sk.out ?_)
      | (with_reducible refine wpList_load_row (o := ⟨some 42, _, _, _, _, _⟩) rfl 29 _ rfl Y rfl 29 (yvs m) (0, 0) _ HN5.out Try.underlying29 rfl Sm.out ?_))
    refine (HCS.out _).mono ?_
    rintro e w6 ⟨rfl, hA6, hb6⟩
    generalize w5.heap.size + 1 + 1 = P6 at *
    have H6 := Lib.hid (H5.out.below hb6)
    have HA6 := Lib.hid (And.intro (HA5.out.below hb6 (zlt HA5.out)) hA6)
    clear hA6 hb6 H5 HA5 HK5 HN5 HCS
    have HSV := Lib.hid (show ∀ W, Below w6.heap.size w6 W → W.rangeAt X 0 (yvs k).toList ∧ W.rangeAt Y 0 (yvs m).toList from fun W hW => ⟨(H6.out.below hW).key.all, (H6.out.below hW).non.all⟩)
    go_upto_region 7 with fail
    have eq1 : IntKind.i64.wrap (q : Int) = (q : Int) := IntWalk.i64_in _ (by have := HQ.out; omega)
    have hmk := HMK.out
    try simp only [Act.put]
    refine wp_region_noPanic ?_
    refine wp_region_held_drew (S := fun W => W.rangeAt X 0 (yvs k).toList ∧ W.rangeAt Y 0 (yvs m).toList) (by kernel_rfl) (HSV.out _ (Below.refl _ w6).drew) (fun hHeld => ?_)
    refine wpAnyH_take (i := 0) (oi := ⟨some 49, _, _, _, _, _⟩) rfl (by kernel_rfl) (by decide +kernel) (by decide +kernel) (fun _ _ _ h => h) (yieldsIf_load_mid (by rfl) _ _ rfl (X) (0) rfl (yvs k).toList _ (fun w' h => h.1) Try.underlying22 rfl Ik.out) (by assumption) ?_
    try simp only [Act.put, List.setIfInBounds_toArray, List.set_cons_zero, List.set_cons_succ, Array.toArray_toList]
    refine wpAnyH_take (i := 1) (oi := ⟨some 50, _, _, _, _, _⟩) rfl (by kernel_rfl) (by decide +kernel) (by decide +kernel) (fun _ _ _ h => h) (yieldsIf_load_mid (by rfl) _ _ rfl (Y) (0) rfl (yvs m).toList _ (fun w' h => h.2) Try.underlying29 rfl Im.out) (by assumption) ?_
    try simp only [Act.put, List.setIfInBounds_toArray, List.set_cons_zero, List.set_cons_succ, Array.toArray_toList]
    refine wpAnyH_take (i := 2) (oi := ⟨some 51, _, _, _, _, _⟩) (v := ?_) rfl (by kernel_rfl) (by decide +kernel) (by decide +kernel) (fun _ _ _ h => h) (Or.inl ⟨by rfl, ?_⟩) (by assumption) ?_
    rotate_left 1
    · (intro w' hSw; go_simp; try with_reducible rfl)
    try simp only [Act.put, List.setIfInBounds_toArray, List.set_cons_zero, List.set_cons_succ]
    refine wpAnyH_take (i := 3) (oi := ⟨some 52, _, _, _, _, _⟩) (v := ?_) rfl (by kernel_rfl) (by decide +kernel) (by decide +kernel) (fun _ _ _ h => h) (Or.inl ⟨by rfl, ?_⟩) (by assumption) ?_
    rotate_left 1
    · (intro w' hSw; go_simp; try with_reducible rfl)
    try simp only [Act.put, List.setIfInBounds_toArray, List.set_cons_zero, List.set_cons_succ]
    refine wpAnyH_take (i := 4) (oi := ⟨some 53, _, _, _, _, _⟩) (v := ?_) rfl (by kernel_rfl) (by decide +kernel) (by decide +kernel) (fun _ _ _ h => h) (Or.inl ⟨by rfl, ?_⟩) (by assumption) ?_
    rotate_left 1
    · (intro w' hSw; go_simp; try with_reducible rfl)
    try simp only [Act.put, List.setIfInBounds_toArray, List.set_cons_zero, List.set_cons_succ]
    clear hHeld
    have HB0 := Lib.hid (Below.refl w6.heap.size w6).drew
    refine wpAnyH_ready (rs := [5]) (by decide +kernel) (by simp) ?_
    refine AllReadyH.cons rfl (fun K hK => ?_) AllReadyH.nil
    go_simp
    have hal := HB0.out.alloc HB0.out.size (.cells (yvs (zeroY q)) 5)
    have hxl := heap_alloc_new (w6.drew) (.cells (yvs (zeroY q)) 5)
    refine hK.out _ _ (HSV.out _ hal) (fun hHeld => ?_)
    clear hK K hHeld hmk eq1
    try simp only [Act.put, List.setIfInBounds_toArray, List.set_cons_zero, List.set_cons_succ]
    refine (show ∀ wb : World, wb = (w6.drew).alloc (.cells (yvs (zeroY q)) 5) → _ from ?_) _ rfl
    intro wb ew
    rw [← ew] at hal hxl
    have HB1 := Lib.hid hal
    have HZ := Lib.hid (show BS wb (.slice (some ⟨w6.drew.heap.size, 0, none⟩) q q) ((zeroY q).map yv) from BS.of_arr0 (t := 5) hxl (by simp [zeroY]))
    clear ew hal hxl
    refine wpAnyH_ready (rs := [6]) (by decide +kernel) (by simp) ?_
    refine AllReadyH.cons rfl (fun K hK => ?_) AllReadyH.nil
    go_simp
    go_at_call 18
    refine (HCC.out _ _ HZ.out).mono ?_
    rintro e w8 ⟨rfl, hA8, hb⟩
    have HB8 := Lib.hid (HB1.out.trans (hb.mono HB1.out.size))
    generalize wb.heap.size + 1 + 1 + 1 + 1 = P8 at *
    have HA8 := Lib.hid hA8
    clear hA8 hb
    go_wp2_with fail
    refine hK.out _ _ (HSV.out _ HB8.out) (fun hHeld => ?_)
    clear hK K
    try simp only [Act.put, List.setIfInBounds_toArray, List.set_cons_zero, List.set_cons_succ]
    refine wpAnyH_take (i := 7) (oi := ⟨some 48, _, _, _, _, _⟩) (v := ?_) rfl (by kernel_rfl) (by decide +kernel) (by decide +kernel) (fun _ _ _ h => h) (Or.inl ⟨by rfl, ?_⟩) (by assumption) ?_
    rotate_left 1
    · (intro w' hSw; go_simp; try with_reducible rfl)
    try simp only [Act.put, List.setIfInBounds_toArray, List.set_cons_zero, List.set_cons_succ]
    refine wpAnyH_take (i := 8) (oi := ⟨some 56, _, _, _, _, _⟩) (v := ?_) rfl (by kernel_rfl) (by decide +kernel) (by decide +kernel) (fun _ _ _ h => h) (Or.inl ⟨by rfl, ?_⟩) (by assumption) ?_
    rotate_left 1
    · (intro w' hSw; go_simp; try with_reducible rfl)
    try simp only [Act.put, List.setIfInBounds_toArray, List.set_cons_zero, List.set_cons_succ]
    refine wpAnyH_take (i := 9) (oi := ⟨some 57, _, _, _, _, _⟩) (v := ?_) rfl (by kernel_rfl) (by decide +kernel) (by decide +kernel) (fun _ _ _ h => h) (Or.inl ⟨by rfl, ?_⟩) (by assumption) ?_
    rotate_left 1
    · (intro w' hSw; go_simp; try with_reducible rfl)
    try simp only [Act.put, List.setIfInBounds_toArray, List.set_cons_zero, List.set_cons_succ]
    refine wpAnyH_take (i := 10) (oi := ⟨some 13, _, _, _, _, _⟩) (v := ?_) rfl (by kernel_rfl) (by decide +kernel) (by decide +kernel) (fun _ _ _ h => h) (Or.inl ⟨by rfl, ?_⟩) (by assumption) ?_
    rotate_left 1
    · (intro w' hSw; go_simp; try with_reducible rfl)
    try simp only [Act.put, List.setIfInBounds_toArray, List.set_cons_zero, List.set_cons_succ]
    refine wpAnyH_take (i := 11) (oi := ⟨some 14, _, _, _, _, _⟩) (v := ?_) rfl (by kernel_rfl) (by decide +kernel) (by decide +kernel) (fun _ _ _ h => h) (Or.inl ⟨by rfl, ?_⟩) (by assumption) ?_
    rotate_left 1
    · (intro w' hSw; go_simp; try with_reducible rfl)
    try simp only [Act.put, List.setIfInBounds_toArray, List.set_cons_zero, List.set_cons_succ]
    clear hHeld
    refine wpAnyH_done (by decide +kernel) ?_ _
    refine NoPanic.normal ?_
    have hA := HA6.out.1.below HB8.out (zlt HA6.out.1)
    have hB := HA6.out.2.below HB8.out (zlt HA6.out.2)
    have hz : sumB (zeroY q) (strL T m 0 q) = strL T m 0 q := sumB_zero _ _ (strL_length _ _ _ _)
    have hC := HA8.out
    rw [hz] at hC
    have hd : (strL T m 0 q).drop i = strL T m i j := by rw [← HQ.out.2.2, strL_drop, Nat.zero_add]
    obtain ⟨a9, hsl, B9⟩ := slice_on w8 (some ⟨P5, 0, none⟩) q q i _ (BS.of_arr0 hA (strL_length _ _ _ _)) (strL_length _ _ _ _) (by have := HQ.out; omega) (Nat.le_refl _)
    rw [hd] at B9
    have S1 := Lib.hid (same_eq w8 _ _ _ (BS.of_arr0 (n := j) (cap := j) hB (strL_length _ _ _ _)) B9)
    have S2 := Lib.hid (same_eq w8 _ _ _ (BS.of_arr0 (n := q) (cap := q) hC (strL_length _ _ _ _)) (BS.of_arr0 (n := q) (cap := q) hA (strL_length _ _ _ _)))
    have HEND := Lib.hid (H6.out.below HB8.out).bel
    clear hA hB hC hz hd B9 HB8 HA8 HZ HB1 HB0 HSV
    go_wp2_with fail
    refine S1.out.mono ?_
    rintro e w9 ⟨rfl, rfl⟩
    go_wp2_with fail
    refine S2.out.mono ?_
    rintro e w10 ⟨rfl, rfl⟩
    go_wp2_with fail
    go_ret
    exact ⟨by simp, HEND.out⟩
set_option maxRecDepth 100000 in
theorem lifted (os : Os) (started : os.Started) (H : Type) (enc : TypeId × Value → H) :
    ReturnsInHanded {} Try.checked os 6 .any (Rows.ctrPlacesSpec.pre6 enc Try.prog Try.f6 Rows.ctrPlacesRow.domain false) (Rows.ctrPlacesSpec.post enc Try.prog Try.f6 false true false false) := by
  refine returnsInHanded_of_change_sized (C := Try.checked) own started (by kernel_rfl) Try.func6
    (ChangeSpec.witness6 (enc := enc) (C := Try.checked) false ⟨#[], #[.agg (placeCells (zeroY 32) (zeroY 12) 0 0)], []⟩ 8 (by kernel_rfl) (by kernel_rfl) (by kernel_rfl) (by kernel_rfl)) ?_
  intro W base args ds gs before hval0 hW hcnd hsz0 _
  have hsz : (DataW.weightsEach Try.prog (Try.f6.params.toList ++ Rows.ctrPlacesSpec.plain.varTypes Try.prog) (ds ++ gs)).all (· ≤ reachBytes) = true := hsz0
  clear hsz0
  have hval : ∀ (j : Nat) t v, Try.f6.params[j]? = some t → args[j]? = some v → Value.okWide Try.prog W .any base t v := hval0
  have hW' := hW
  obtain ⟨p, q, hA0, hV, rfl, hfz, hnd⟩ := hW
  have hA : DataW.TrodAll enc Try.prog W 0 (fun _ => true) true Try.f6.params.toList args.toList ds p := hA0
  rw [Try.params6] at hA hval hsz
  obtain ⟨v0, vs0, d0, ds0, p0, q0, hargs, rfl, rfl, h0, r0⟩ := trodAll_cons hA
  obtain ⟨rfl, rfl, rfl⟩ := trodAll_nil r0
  obtain rfl : args = #[v0] := by cases args; simp_all
  obtain ⟨rfl, rfl⟩ := trodVars_none hV
  have k0 := h0
  have lt0 : ∀ x ∈ p0, x.block < W.heap.size := by obtain ⟨m, hm⟩ := k0; exact DataW.trod_lt m _ _ _ hm
  obtain ⟨k, m, x, y, rfl, hk, hm, hx, hy⟩ := open_place (hval 0 50 v0 rfl rfl) h0 hsz
  clear hA0 hval0
  simp only [List.append_nil] at hW'
  refine (walk W k m x y hk hm hx hy).mono fun e W' ⟨he, bel⟩ => ?_
  subst he
  exact ⟨_, rfl, _, _, _, [], _, [], hW', trodAll_mk1 (shut_bool Try.underlying4 _), (trodAll_cons_mk (Below.trod laidOut (by kernel_rfl) (of_decide_eq_true (by kernel_rfl)) k0 bel lt0) trodAll_mk0), rfl, bel.frame _, fun h => by cases h⟩

theorem over : Rows.ctrPlacesRow.holds Try.pinned (OpenSpec.ofChange Rows.ctrPlacesSpec) :=
  OpenClaim.holds_of_wide 6 Try.f6 rfl rfl rfl rfl rfl rfl rfl ⟨rfl, rfl, rfl, rfl, rfl⟩ rfl rfl rfl rfl rfl (by kernel_rfl) Try.func6 (by kernel_rfl)
    (of_decide_eq_true (by kernel_rfl)) (by unfold Func.isWrapper; first | (rw [if_pos (by decide +kernel)]; kernel_rfl) | (rw [if_neg (by decide +kernel)]; exact ⟨rfl, rfl⟩))
    (fun os started H enc _ => lifted os started H enc)

/-- The statement. -/
theorem proved : Rows.CtrPlacesSaid := over
#print axioms proved
end Go.Proofs.Ytajfooefofafmaa.ctrPlaces
