/-
  'CtrBlocks' returns true at every input, and each argument reads behind the call as it read before. Conditions: none.
-/
import Derived.Test.YtajfooefofafmaaRows
import Derived.Test.YtajfooefofafmaaYLaid
import Derived.Test.YtajfooefofafmaaCOpen
import Derived.Test.YtajfooefofafmaaCUse
import Derived.Deep.CutRange
import Derived.Test.YtajfooefofafmaaCClo
namespace Go.Proofs.Ytajfooefofafmaa.ctrBlocks
open Go.ChangeShapes Go.WideShapes Go.ChangeAt Go.RowKit
set_option linter.unusedVariables false

theorem block_apart (T m : List (BitVec 8)) (hT : T.length = 240) (hm : m.length = 12) (x y : Nat) (hx : x < 256) (hy : y < 256) : sealB T (m ++ beY 4 x) = sealB T (m ++ beY 4 y) ↔ x = y := by
  rw [seal_inj T _ _ hT (by simp [beY_length, hm]) (by simp [beY_length, hm]), List.append_cancel_left_eq]
  constructor
  · intro h
    have h1 := congrArg (fun l => num (l.map yv)) h
    rw [beY_put, beY_put, putI_num 4 _ (by omega) (by omega), putI_num 4 _ (by omega) (by omega)] at h1
    omega
  · rintro rfl; rfl

set_option maxRecDepth 100000 in
set_option maxHeartbeats 3200000 in
theorem walk (w : World) (k : List (BitVec 8)) (m : List (BitVec 8)) (x : Nat) (y : Nat) (hk : k.length = 32) (hm : m.length = 12) (hx : x < 256) (hy : y < 256) :
    Calls Try.prog 7 #[.agg (twoCells k m x y)] w fun e w' => e = .returned (.bool true) ∧ Below w.heap.size w w' := by
  have HkL := Lib.hid hk
  have HmL := Lib.hid hm
  have Sk := Lib.hid (size_k32 k hk)
  have Sm := Lib.hid (size_n12 m hm)
  have Ik := Lib.hid (show (Try.prog.info? 22).map (·.size) = some (yvs k).toList.length by rw [Array.length_toList]; exact Sk.out)
  have Im := Lib.hid (show (Try.prog.info? 29).map (·.size) = some (yvs m).toList.length by rw [Array.length_toList]; exact Sm.out)
  have Ek := Lib.hid (show (yvs (zeroY 32)).size = (yvs k).size by rw [yvs_size, yvs_size, hk]; simp [zeroY])
  have Ak := Lib.hid (show (Try.prog.info? 22).map (·.size) = some (yvs k).size by rw [show (Try.prog.info? 22).map (·.size) = some 32 by kernel_rfl, yvs_size, hk])
  have Em := Lib.hid (show (yvs (zeroY 12)).size = (yvs m).size by rw [yvs_size, yvs_size, hm]; simp [zeroY])
  have Am := Lib.hid (show (Try.prog.info? 29).map (·.size) = some (yvs m).size by rw [show (Try.prog.info? 29).map (·.size) = some 12 by kernel_rfl, yvs_size, hm])
  clear hk hm
  have XI := Lib.hid (And.intro hx hy)
  clear hx hy
  go_enter Try.func7, Try.ntmps7
  go_wp2_with fail
  have hA0 := heap_alloc_new w (.cells (twoCells k m x y) 53)
  have hB0 := (Below.refl w.heap.size w).alloc (Nat.le_refl _) (.cells (twoCells k m x y) 53)
  refine (alive5_any _).mono ?_
  rintro e w1 ⟨rfl, hb1⟩
  have hA1 := (hb1.block w.heap.size (by simp)).trans hA0
  have HBW1 := Lib.hid (hB0.trans (hb1.mono hB0.size))
  have HLT1 := Lib.hid (show w.heap.size < w1.heap.size by have := hb1.size; simp at this; omega)
  have HS := Lib.hid (show ∀ W, Below w1.heap.size w1 W → W.rangeAt w.heap.size 0 (yvs k).toList ∧ W.rangeAt w.heap.size 32 (yvs m).toList ∧ W.cell? ⟨w.heap.size, 44, none⟩ = some (Value.int .u8 (x : Int)) ∧ W.cell? ⟨w.heap.size, 45, none⟩ = some (Value.int .u8 (y : Int)) from fun W hW => two_at ((hW.block _ HLT1.out).trans hA1) HkL.out HmL.out)
  clear hA0 hB0 hb1 hA1
  go_upto_region 3 with (fail)
  go_cut [3, 4, 5, 6] from 7 (fun v3 v4 v5 v6 wc => ∃ X Y, v3 = .pointer (some ⟨X, 0, none⟩) ∧ v4 = .pointer (some ⟨Y, 0, none⟩) ∧ v5 = .int .u8 (x : Int) ∧ v6 = .int .u8 (y : Int) ∧ ArrY wc X 22 k ∧ ArrY wc Y 29 m ∧ Below w1.heap.size w1 wc)
  case first =>
    try simp only [Act.put]
    refine wp_region_noPanic ?_
    refine wp_region_held_drew (S := fun W => W.rangeAt w.heap.size 0 (yvs k).toList ∧ W.rangeAt w.heap.size 32 (yvs m).toList ∧ W.cell? ⟨w.heap.size, 44, none⟩ = some (Value.int .u8 (x : Int)) ∧ W.cell? ⟨w.heap.size, 45, none⟩ = some (Value.int .u8 (y : Int))) (by kernel_rfl) (HS.out _ (Below.refl _ w1).drew) (fun hHeld => ?_)
    refine wpAnyH_take (i := 0) (oi := ⟨some 14, _, _, _, _, _⟩) (v := ?_) rfl (by kernel_rfl) (by decide +kernel) (by decide +kernel) (fun _ _ _ h => h) (Or.inl ⟨by rfl, ?_⟩) (by assumption) ?_
    rotate_left 1
    · (intro w' hSw; go_simp; try with_reducible rfl)
    try simp only [Act.put, List.setIfInBounds_toArray, List.set_cons_zero, List.set_cons_succ]
    refine wpAnyH_take (i := 1) (oi := ⟨some 15, _, _, _, _, _⟩) rfl (by kernel_rfl) (by decide +kernel) (by decide +kernel) (fun _ _ _ h => h) (yieldsIf_load_mid (by rfl) _ _ rfl (w.heap.size) (0) rfl (yvs k).toList _ (fun w' h => h.1) Try.underlying22 rfl Ik.out) (by assumption) ?_
    try simp only [Act.put, List.setIfInBounds_toArray, List.set_cons_zero, List.set_cons_succ, Array.toArray_toList]
    refine wpAnyH_take (i := 2) (oi := ⟨some 16, _, _, _, _, _⟩) (v := ?_) rfl (by kernel_rfl) (by decide +kernel) (by decide +kernel) (fun _ _ _ h => h) (Or.inl ⟨by rfl, ?_⟩) (by assumption) ?_
    rotate_left 1
    · (intro w' hSw; go_simp; try with_reducible rfl)
    try simp only [Act.put, List.setIfInBounds_toArray, List.set_cons_zero, List.set_cons_succ]
    refine wpAnyH_take (i := 3) (oi := ⟨some 17, _, _, _, _, _⟩) rfl (by kernel_rfl) (by decide +kernel) (by decide +kernel) (fun _ _ _ h => h) (yieldsIf_load_mid (by rfl) _ _ rfl (w.heap.size) (32) rfl (yvs m).toList _ (fun w' h => h.2.1) Try.underlying29 rfl Im.out) (by assumption) ?_
    try simp only [Act.put, List.setIfInBounds_toArray, List.set_cons_zero, List.set_cons_succ, Array.toArray_toList]
    refine wpAnyH_take (i := 4) (oi := ⟨some 18, _, _, _, _, _⟩) (v := ?_) rfl (by kernel_rfl) (by decide +kernel) (by decide +kernel) (fun _ _ _ h => h) (Or.inl ⟨by rfl, ?_⟩) (by assumption) ?_
    rotate_left 1
    · (intro w' hSw; go_simp; try with_reducible rfl)
    try simp only [Act.put, List.setIfInBounds_toArray, List.set_cons_zero, List.set_cons_succ]
    refine wpAnyH_take (i := 5) (oi := ⟨some 19, _, _, _, _, _⟩) (v := ?_) rfl (by kernel_rfl) (by decide +kernel) (by decide +kernel) (fun _ _ _ h => h) (Or.inl ⟨by rfl, ?_⟩) (by assumption) ?_
    rotate_left 1
    · (intro w' hSw; have hcell := hSw.2.2.1; clear hSw; go_simp; try with_reducible rfl)
    try simp only [Act.put, List.setIfInBounds_toArray, List.set_cons_zero, List.set_cons_succ]
    refine wpAnyH_take (i := 6) (oi := ⟨some 20, _, _, _, _, _⟩) (v := ?_) rfl (by kernel_rfl) (by decide +kernel) (by decide +kernel) (fun _ _ _ h => h) (Or.inl ⟨by rfl, ?_⟩) (by assumption) ?_
    rotate_left 1
    · (intro w' hSw; go_simp; try with_reducible rfl)
    try simp only [Act.put, List.setIfInBounds_toArray, List.set_cons_zero, List.set_cons_succ]
    refine wpAnyH_take (i := 7) (oi := ⟨some 21, _, _, _, _, _⟩) (v := ?_) rfl (by kernel_rfl) (by decide +kernel) (by decide +kernel) (fun _ _ _ h => h) (Or.inl ⟨by rfl, ?_⟩) (by assumption) ?_
    rotate_left 1
    · (intro w' hSw; have hcell := hSw.2.2.2; clear hSw; go_simp; try with_reducible rfl)
    try simp only [Act.put, List.setIfInBounds_toArray, List.set_cons_zero, List.set_cons_succ]
    clear hHeld
    have HB0 := Lib.hid (Below.refl w1.heap.size w1).drew
    refine wpAnyH_ready (rs := [8, 9]) (by decide +kernel) (by simp) ?_
    refine AllReadyH.cons rfl (fun K hK => ?_) (AllReadyH.cons rfl (fun K hK => ?_) AllReadyH.nil)
    · go_simp
      have hal := HB0.out.alloc HB0.out.size (.cells (yvs (zeroY 32)) 22)
      have hxl := heap_alloc_new (w1.drew) (.cells (yvs (zeroY 32)) 22)
      have hst := (Below.refl (w1.drew).heap.size (w1.drew)).alloc (Nat.le_refl _) (.cells (yvs (zeroY 32)) 22)
      refine hK.out _ _ (HS.out _ hal) (fun hHeld => ?_)
      clear hK K hHeld
      try simp only [Act.put, List.setIfInBounds_toArray, List.set_cons_zero, List.set_cons_succ]
      refine (show ∀ wb1 : World, wb1 = (w1.drew).alloc (.cells (yvs (zeroY 32)) 22) → _ from ?_) _ rfl
      intro wb1 ew
      rw [← ew] at hal hxl hst
      have HB1 := Lib.hid hal
      have HX1 := Lib.hid (show ArrY wb1 (w1.drew).heap.size 22 (zeroY 32) from hxl)
      have HNX1 := Lib.hid HB0.out.size
      clear ew hal hxl hst
      refine wpAnyH_ready (rs := [9]) (by decide +kernel) (by simp) ?_
      refine AllReadyH.cons rfl (fun K hK => ?_) AllReadyH.nil
      go_simp
      have hal := HB1.out.alloc HB1.out.size (.cells (yvs (zeroY 12)) 29)
      have hxl := heap_alloc_new (wb1) (.cells (yvs (zeroY 12)) 29)
      have hst := (Below.refl (wb1).heap.size (wb1)).alloc (Nat.le_refl _) (.cells (yvs (zeroY 12)) 29)
      refine hK.out _ _ (HS.out _ hal) (fun hHeld => ?_)
      clear hK K hHeld
      try simp only [Act.put, List.setIfInBounds_toArray, List.set_cons_zero, List.set_cons_succ]
      refine (show ∀ wb2 : World, wb2 = (wb1).alloc (.cells (yvs (zeroY 12)) 29) → _ from ?_) _ rfl
      intro wb2 ew
      rw [← ew] at hal hxl hst
      have HX2 := Lib.hid (HX1.out.below hst (zlt HX1.out))
      have NEXY2 := Lib.hid (show (w1.drew).heap.size ≠ (wb1).heap.size from Nat.ne_of_lt (zlt HX1.out))
      have HB2 := Lib.hid hal
      have HY2 := Lib.hid (show ArrY wb2 (wb1).heap.size 29 (zeroY 12) from hxl)
      have HNY2 := Lib.hid HB1.out.size
      clear ew hal hxl hst
      refine wpAnyH_ready (rs := [10]) (by decide +kernel) (by simp) ?_
      refine AllReadyH.cons rfl (fun K hK => ?_) AllReadyH.nil
      rw [if_pos (by kernel_rfl)]
      refine wp_store_row (o := ⟨none, .store _ (.tmp 3) _, _, _, _, _⟩) 22 _ _ rfl ((w1.drew).heap.size) (yvs k) rfl rfl 22 (yvs (zeroY 32)) (show (wb2).heap[(w1.drew).heap.size]? = _ from HX2.out) Ak.out Ek.out (yvs_one _) ?_
      refine hK.out _ _ (HS.out _ (ybelow_row HB2.out HNX1.out (yvs k))) (fun hHeld => ?_)
      clear hK K hHeld
      simp only [Act.put]
      refine wpAnyH_ready (rs := [11]) (by decide +kernel) (by simp) ?_
      refine AllReadyH.cons rfl (fun K hK => ?_) AllReadyH.nil
      rw [if_pos (by kernel_rfl)]
      refine wp_store_row (o := ⟨none, .store _ (.tmp 4) _, _, _, _, _⟩) 29 _ _ rfl ((wb1).heap.size) (yvs m) rfl rfl 29 (yvs (zeroY 12)) (show (((wb2).setRow ((w1.drew).heap.size) (yvs k))).heap[(wb1).heap.size]? = _ from ((setRow_other _ _ _ _ (Ne.symm NEXY2.out)).trans HY2.out)) Am.out Em.out (yvs_one _) ?_
      refine hK.out _ _ (HS.out _ (ybelow_row (ybelow_row HB2.out HNX1.out (yvs k)) HNY2.out (yvs m))) (fun hHeld => ?_)
      clear hK K hHeld
      simp only [Act.put]
      have hHeld := HS.out _ (ybelow_row (ybelow_row HB2.out HNX1.out (yvs k)) HNY2.out (yvs m))
      refine wpAnyH_take (i := 12) (oi := ⟨some 5, _, _, _, _, _⟩) (v := ?_) rfl (by kernel_rfl) (by decide +kernel) (by decide +kernel) (fun _ _ _ h => h) (Or.inl ⟨by rfl, ?_⟩) (by assumption) ?_
      rotate_left 1
      · (intro w' hSw; go_simp; try with_reducible rfl)
      try simp only [Act.put, List.setIfInBounds_toArray, List.set_cons_zero, List.set_cons_succ]
      refine wpAnyH_take (i := 13) (oi := ⟨some 6, _, _, _, _, _⟩) (v := ?_) rfl (by kernel_rfl) (by decide +kernel) (by decide +kernel) (fun _ _ _ h => h) (Or.inl ⟨by rfl, ?_⟩) (by assumption) ?_
      rotate_left 1
      · (intro w' hSw; go_simp; try with_reducible rfl)
      try simp only [Act.put, List.setIfInBounds_toArray, List.set_cons_zero, List.set_cons_succ]
      clear hHeld
      refine wpAnyH_done (by decide +kernel) ?_ _
      refine NoPanic.normal ?_
      go_wp2_with fail
      go_meet
      exact ⟨(w1.drew).heap.size, (wb1).heap.size, rfl, rfl, rfl, rfl, ((setRow_other _ _ _ _ NEXY2.out).trans (setRow_heap _ _ _ (yvs k) _ _ HX2.out)), (setRow_heap _ _ _ (yvs m) _ _ ((setRow_other _ _ _ _ (Ne.symm NEXY2.out)).trans HY2.out)), (ybelow_row (ybelow_row HB2.out HNX1.out (yvs k)) HNY2.out (yvs m))⟩
    · go_simp
      have hal := HB0.out.alloc HB0.out.size (.cells (yvs (zeroY 12)) 29)
      have hxl := heap_alloc_new (w1.drew) (.cells (yvs (zeroY 12)) 29)
      have hst := (Below.refl (w1.drew).heap.size (w1.drew)).alloc (Nat.le_refl _) (.cells (yvs (zeroY 12)) 29)
      refine hK.out _ _ (HS.out _ hal) (fun hHeld => ?_)
      clear hK K hHeld
      try simp only [Act.put, List.setIfInBounds_toArray, List.set_cons_zero, List.set_cons_succ]
      refine (show ∀ wb5 : World, wb5 = (w1.drew).alloc (.cells (yvs (zeroY 12)) 29) → _ from ?_) _ rfl
      intro wb5 ew
      rw [← ew] at hal hxl hst
      have HB5 := Lib.hid hal
      have HY5 := Lib.hid (show ArrY wb5 (w1.drew).heap.size 29 (zeroY 12) from hxl)
      have HNY5 := Lib.hid HB0.out.size
      clear ew hal hxl hst
      refine wpAnyH_ready (rs := [8]) (by decide +kernel) (by simp) ?_
      refine AllReadyH.cons rfl (fun K hK => ?_) AllReadyH.nil
      go_simp
      have hal := HB5.out.alloc HB5.out.size (.cells (yvs (zeroY 32)) 22)
      have hxl := heap_alloc_new (wb5) (.cells (yvs (zeroY 32)) 22)
      have hst := (Below.refl (wb5).heap.size (wb5)).alloc (Nat.le_refl _) (.cells (yvs (zeroY 32)) 22)
      refine hK.out _ _ (HS.out _ hal) (fun hHeld => ?_)
      clear hK K hHeld
      try simp only [Act.put, List.setIfInBounds_toArray, List.set_cons_zero, List.set_cons_succ]
      refine (show ∀ wb6 : World, wb6 = (wb5).alloc (.cells (yvs (zeroY 32)) 22) → _ from ?_) _ rfl
      intro wb6 ew
      rw [← ew] at hal hxl hst
      have HY6 := Lib.hid (HY5.out.below hst (zlt HY5.out))
      have NEYX6 := Lib.hid (show (w1.drew).heap.size ≠ (wb5).heap.size from Nat.ne_of_lt (zlt HY5.out))
      have HB6 := Lib.hid hal
      have HX6 := Lib.hid (show ArrY wb6 (wb5).heap.size 22 (zeroY 32) from hxl)
      have HNX6 := Lib.hid HB5.out.size
      clear ew hal hxl hst
      refine wpAnyH_ready (rs := [10]) (by decide +kernel) (by simp) ?_
      refine AllReadyH.cons rfl (fun K hK => ?_) AllReadyH.nil
      rw [if_pos (by kernel_rfl)]
      refine wp_store_row (o := ⟨none, .store _ (.tmp 3) _, _, _, _, _⟩) 22 _ _ rfl ((wb5).heap.size) (yvs k) rfl rfl 22 (yvs (zeroY 32)) (show (wb6).heap[(wb5).heap.size]? = _ from HX6.out) Ak.out Ek.out (yvs_one _) ?_
      refine hK.out _ _ (HS.out _ (ybelow_row HB6.out HNX6.out (yvs k))) (fun hHeld => ?_)
      clear hK K hHeld
      simp only [Act.put]
      refine wpAnyH_ready (rs := [11]) (by decide +kernel) (by simp) ?_
      refine AllReadyH.cons rfl (fun K hK => ?_) AllReadyH.nil
      rw [if_pos (by kernel_rfl)]
      refine wp_store_row (o := ⟨none, .store _ (.tmp 4) _, _, _, _, _⟩) 29 _ _ rfl ((w1.drew).heap.size) (yvs m) rfl rfl 29 (yvs (zeroY 12)) (show (((wb6).setRow ((wb5).heap.size) (yvs k))).heap[(w1.drew).heap.size]? = _ from ((setRow_other _ _ _ _ NEYX6.out).trans HY6.out)) Am.out Em.out (yvs_one _) ?_
      refine hK.out _ _ (HS.out _ (ybelow_row (ybelow_row HB6.out HNX6.out (yvs k)) HNY5.out (yvs m))) (fun hHeld => ?_)
      clear hK K hHeld
      simp only [Act.put]
      have hHeld := HS.out _ (ybelow_row (ybelow_row HB6.out HNX6.out (yvs k)) HNY5.out (yvs m))
      refine wpAnyH_take (i := 12) (oi := ⟨some 5, _, _, _, _, _⟩) (v := ?_) rfl (by kernel_rfl) (by decide +kernel) (by decide +kernel) (fun _ _ _ h => h) (Or.inl ⟨by rfl, ?_⟩) (by assumption) ?_
      rotate_left 1
      · (intro w' hSw; go_simp; try with_reducible rfl)
      try simp only [Act.put, List.setIfInBounds_toArray, List.set_cons_zero, List.set_cons_succ]
      refine wpAnyH_take (i := 13) (oi := ⟨some 6, _, _, _, _, _⟩) (v := ?_) rfl (by kernel_rfl) (by decide +kernel) (by decide +kernel) (fun _ _ _ h => h) (Or.inl ⟨by rfl, ?_⟩) (by assumption) ?_
      rotate_left 1
      · (intro w' hSw; go_simp; try with_reducible rfl)
      try simp only [Act.put, List.setIfInBounds_toArray, List.set_cons_zero, List.set_cons_succ]
      clear hHeld
      refine wpAnyH_done (by decide +kernel) ?_ _
      refine NoPanic.normal ?_
      go_wp2_with fail
      go_meet
      exact ⟨(wb5).heap.size, (w1.drew).heap.size, rfl, rfl, rfl, rfl, ((setRow_other _ _ _ _ (Ne.symm NEYX6.out)).trans (setRow_heap _ _ _ (yvs k) _ _ HX6.out)), (setRow_heap _ _ _ (yvs m) _ _ ((setRow_other _ _ _ _ NEYX6.out).trans HY6.out)), (ybelow_row (ybelow_row HB6.out HNX6.out (yvs k)) HNY5.out (yvs m))⟩
  case rest =>
    obtain ⟨X, Y, rfl, rfl, rfl, rfl, hX, hY, hbc⟩ := hcut
    have H0 := Lib.hid (show CW w wc X Y k m from ⟨hX, hY, HBW1.out.trans (hbc.mono HBW1.out.size)⟩)
    clear hX hY hbc HS HBW1 HLT1
    have hTL := keysL_length k HkL.out
    obtain ⟨FA, hFA⟩ : ∃ z, sealB (keysL k) (m ++ beY 4 x) = z := ⟨_, rfl⟩
    obtain ⟨FB, hFB⟩ : ∃ z, sealB (keysL k) (m ++ beY 4 y) = z := ⟨_, rfl⟩
    have hla : FA.length = 16 := by rw [← hFA]; exact sealB_length _ _ hTL
    have hlb : FB.length = 16 := by rw [← hFB]; exact sealB_length _ _ hTL
    have HAB := Lib.hid (show FA = FB ↔ x = y by rw [← hFA, ← hFB]; exact block_apart _ m hTL HmL.out x y XI.out.1 XI.out.2)
    have HC1 := Lib.hid (show ∀ W, CW w W X Y k m → Calls Try.prog 20 #[.int .u8 (x : Int), .pointer (some ⟨Y, 0, none⟩), .pointer (some ⟨X, 0, none⟩)] W fun e w' => e = .returned (.tuple #[.agg (yvs FA), .bool true]) ∧ Below W.heap.size W w' from fun W h => by
      have q := clo_any k m X Y x W HkL.out HmL.out XI.out.1 h.key h.non
      rw [hFA] at q
      exact q)
    have HC2 := Lib.hid (show ∀ W, CW w W X Y k m → Calls Try.prog 20 #[.int .u8 (y : Int), .pointer (some ⟨Y, 0, none⟩), .pointer (some ⟨X, 0, none⟩)] W fun e w' => e = .returned (.tuple #[.agg (yvs FB), .bool true]) ∧ Below W.heap.size W w' from fun W h => by
      have q := clo_any k m X Y y W HkL.out HmL.out XI.out.2 h.key h.non
      rw [hFB] at q
      exact q)
    have SFA := Lib.hid (size_block FA hla)
    have SFB := Lib.hid (size_block FB hlb)
    have EFA := Lib.hid (show (yvs (zeroY 16)).size = (yvs FA).size by rw [yvs_size, yvs_size, hla]; simp [zeroY])
    have EFB := Lib.hid (show (yvs (zeroY 16)).size = (yvs FB).size by rw [yvs_size, yvs_size, hlb]; simp [zeroY])
    have HQ := Lib.hid (fun W => eq_block FA FB hla hlb W)
    clear hTL hFA hFB hla hlb
    have hmf : ∀ (fn : Fn) (first cap : Array Value) (w : World), (Instr.makeFunc fn first cap).run Try.prog w = .ok (.func fn first cap) w := fun _ _ _ _ => rfl
    go_wp2_with fail
    clear hmf
    refine (HC1.out _ H0.out).mono ?_
    rintro e w5 ⟨rfl, hb5⟩
    have H5 := Lib.hid (H0.out.below hb5)
    clear hb5 H0
    go_upto_region 6 with (first
      | (with_reducible refine wpList_store_row (o := ⟨none, .store _ (.tmp 8) _, _, _, _, _⟩) rfl 55 _ _ rfl w5.heap.size (yvs FA) rfl rfl 55 (yvs (zeroY 16)) (heap_alloc_new w5 _) SFA.out EFA.out (yvs_one _) ?_))
    generalize hW6 : World.setRow _ w5.heap.size _ = W6
    have h6 : CW w W6 X Y k m ∧ ArrY W6 w5.heap.size 55 FA := by
      obtain ⟨e1, e2, e3⟩ := ygen_row (w := w5) (old := yvs (zeroY 16)) (cs := yvs FA) (T := 55)
      rw [← hW6]
      exact ⟨H5.out.below e3, e1⟩
    have H6 := Lib.hid h6
    clear hW6 h6 H5
    generalize w5.heap.size = PA at *
    go_wp2_with fail
    refine (HC2.out _ H6.out.1).mono ?_
    rintro e w7 ⟨rfl, hb7⟩
    have H7 := Lib.hid (And.intro (H6.out.1.below hb7) (H6.out.2.below hb7 (zlt H6.out.2)))
    clear hb7 H6
    go_upto_region 7 with (first
      | (with_reducible refine wpList_store_row (o := ⟨none, .store _ (.tmp 10) _, _, _, _, _⟩) rfl 55 _ _ rfl w7.heap.size (yvs FB) rfl rfl 55 (yvs (zeroY 16)) (heap_alloc_new w7 _) SFB.out EFB.out (yvs_one _) ?_))
    generalize hW8 : World.setRow _ w7.heap.size _ = W8
    have h8 : W8.heap[PA]? = some (.cells (yvs FA) 55 (0, 0)) ∧ W8.heap[w7.heap.size]? = some (.cells (yvs FB) 55 (0, 0)) ∧ Below w.heap.size w W8 := by
      obtain ⟨e1, e2, e3⟩ := ygen_row (w := w7) (old := yvs (zeroY 16)) (cs := yvs FB) (T := 55)
      rw [← hW8]
      exact ⟨H7.out.2.below e3 (zlt H7.out.2), e1, (H7.out.1.below e3).bel⟩
    have H8 := Lib.hid h8
    clear hW8 h8 H7
    generalize w7.heap.size = PB at *
    have hq := HQ.out
    by_cases hxy : x = y
    · have exy : ((x : Int) == (y : Int)) = true := by simp [hxy]
      rw [show decide (FA = FB) = true by simp [HAB.out, hxy]] at hq
      clear hxy
      go_wp2_with (first
        | (with_reducible refine wpList_load_guarded (o := ⟨some 40, _, _, _, _, _⟩) (by kernel_rfl) 55 _ rfl PA rfl 55 (yvs FA) (0, 0) _ H8.out.1 Try.underlying55 rfl SFA.out ?_)
        | (with_reducible refine wpList_load_guarded (o := ⟨some 41, _, _, _, _, _⟩) (by kernel_rfl) 55 _ rfl PB rfl 55 (yvs FB) (0, 0) _ H8.out.2.1 Try.underlying55 rfl SFB.out ?_))
      go_ret
      exact ⟨by simp, H8.out.2.2⟩
    · have exy : ((x : Int) == (y : Int)) = false := by simp; omega
      rw [show decide (FA = FB) = false by simp [HAB.out, hxy]] at hq
      clear hxy
      go_wp2_with (first
        | (with_reducible refine wpList_load_guarded (o := ⟨some 40, _, _, _, _, _⟩) (by kernel_rfl) 55 _ rfl PA rfl 55 (yvs FA) (0, 0) _ H8.out.1 Try.underlying55 rfl SFA.out ?_)
        | (with_reducible refine wpList_load_guarded (o := ⟨some 41, _, _, _, _, _⟩) (by kernel_rfl) 55 _ rfl PB rfl 55 (yvs FB) (0, 0) _ H8.out.2.1 Try.underlying55 rfl SFB.out ?_))
      go_ret
      exact ⟨by simp, H8.out.2.2⟩
set_option maxRecDepth 100000 in
theorem lifted (os : Os) (started : os.Started) (H : Type) (enc : TypeId × Value → H) :
    ReturnsInHanded {} Try.checked os 7 .any (Rows.ctrBlocksSpec.pre6 enc Try.prog Try.f7 Rows.ctrBlocksRow.domain false) (Rows.ctrBlocksSpec.post enc Try.prog Try.f7 false true false false) := by
  refine returnsInHanded_of_change_sized (C := Try.checked) own started (by kernel_rfl) Try.func7
    (ChangeSpec.witness6 (enc := enc) (C := Try.checked) false ⟨#[], #[.agg (twoCells (zeroY 32) (zeroY 12) 0 0)], []⟩ 8 (by kernel_rfl) (by kernel_rfl) (by kernel_rfl) (by kernel_rfl)) ?_
  intro W base args ds gs before hval0 hW hcnd hsz0 _
  have hsz : (DataW.weightsEach Try.prog (Try.f7.params.toList ++ Rows.ctrBlocksSpec.plain.varTypes Try.prog) (ds ++ gs)).all (· ≤ reachBytes) = true := hsz0
  clear hsz0
  have hval : ∀ (j : Nat) t v, Try.f7.params[j]? = some t → args[j]? = some v → Value.okWide Try.prog W .any base t v := hval0
  have hW' := hW
  obtain ⟨p, q, hA0, hV, rfl, hfz, hnd⟩ := hW
  have hA : DataW.TrodAll enc Try.prog W 0 (fun _ => true) true Try.f7.params.toList args.toList ds p := hA0
  rw [Try.params7] at hA hval hsz
  obtain ⟨v0, vs0, d0, ds0, p0, q0, hargs, rfl, rfl, h0, r0⟩ := trodAll_cons hA
  obtain ⟨rfl, rfl, rfl⟩ := trodAll_nil r0
  obtain rfl : args = #[v0] := by cases args; simp_all
  obtain ⟨rfl, rfl⟩ := trodVars_none hV
  have k0 := h0
  have lt0 : ∀ x ∈ p0, x.block < W.heap.size := by obtain ⟨m, hm⟩ := k0; exact DataW.trod_lt m _ _ _ hm
  obtain ⟨k, m, x, y, rfl, hk, hm, hx, hy⟩ := open_two (hval 0 53 v0 rfl rfl) h0 hsz
  clear hA0 hval0
  simp only [List.append_nil] at hW'
  refine (walk W k m x y hk hm hx hy).mono fun e W' ⟨he, bel⟩ => ?_
  subst he
  exact ⟨_, rfl, _, _, _, [], _, [], hW', trodAll_mk1 (shut_bool Try.underlying4 _), (trodAll_cons_mk (Below.trod laidOut (by kernel_rfl) (of_decide_eq_true (by kernel_rfl)) k0 bel lt0) trodAll_mk0), rfl, bel.frame _, fun h => by cases h⟩

theorem over : Rows.ctrBlocksRow.holds Try.pinned (OpenSpec.ofChange Rows.ctrBlocksSpec) :=
  OpenClaim.holds_of_wide 7 Try.f7 rfl rfl rfl rfl rfl rfl rfl ⟨rfl, rfl, rfl, rfl, rfl⟩ rfl rfl rfl rfl rfl (by kernel_rfl) Try.func7 (by kernel_rfl)
    (of_decide_eq_true (by kernel_rfl)) (by unfold Func.isWrapper; first | (rw [if_pos (by decide +kernel)]; kernel_rfl) | (rw [if_neg (by decide +kernel)]; exact ⟨rfl, rfl⟩))
    (fun os started H enc _ => lifted os started H enc)

/-- The statement. -/
theorem proved : Rows.CtrBlocksSaid := over
#print axioms proved
end Go.Proofs.Ytajfooefofafmaa.ctrBlocks
