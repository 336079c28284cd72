/-
  'CtrBack' returns true at every input, and each argument reads behind the call as it read before. Conditions: none.
-/
import Derived.Test.YtajfooefofafmaaRows
import Derived.Test.YtajfooefofafmaaYLaid
import Derived.Test.YtajfooefofafmaaCOpen
import Derived.Test.YtajfooefofafmaaCUse
import Derived.Deep.CutRange
namespace Go.Proofs.Ytajfooefofafmaa.ctrBack
open Go.ChangeShapes Go.WideShapes Go.ChangeAt Go.RowKit
set_option linter.unusedVariables false


set_option maxRecDepth 100000 in
set_option maxHeartbeats 3200000 in
theorem walk (w : World) (k : List (BitVec 8)) (m : List (BitVec 8)) (al : Option Addr) (lenl capl : Nat) (l : List (BitVec 8)) (x : Nat) (hk : k.length = 32) (hm : m.length = 12) (el : l.length = lenl) (bl : BS w (.slice al lenl capl) (l.map yv)) (ml : lenl ≤ capl) (nl : capl ≤ 140737488351232) (hx : x < 65536) :
    Calls Try.prog 5 #[.agg (cutCells k m al lenl capl x)] w fun e w' => e = .returned (.bool true) ∧ Below w.heap.size w w' := by
  have HkL := Lib.hid hk
  have HmL := Lib.hid hm
  have Sk := Lib.hid (size_k32 k hk)
  have Sm := Lib.hid (size_n12 m hm)
  have Ik := Lib.hid (show (Try.prog.info? 22).map (·.size) = some (yvs k).toList.length by rw [Array.length_toList]; exact Sk.out)
  have Im := Lib.hid (show (Try.prog.info? 29).map (·.size) = some (yvs m).toList.length by rw [Array.length_toList]; exact Sm.out)
  have Ek := Lib.hid (show (yvs (zeroY 32)).size = (yvs k).size by rw [yvs_size, yvs_size, hk]; simp [zeroY])
  have Ak := Lib.hid (show (Try.prog.info? 22).map (·.size) = some (yvs k).size by rw [show (Try.prog.info? 22).map (·.size) = some 32 by kernel_rfl, yvs_size, hk])
  have Em := Lib.hid (show (yvs (zeroY 12)).size = (yvs m).size by rw [yvs_size, yvs_size, hm]; simp [zeroY])
  have Am := Lib.hid (show (Try.prog.info? 29).map (·.size) = some (yvs m).size by rw [show (Try.prog.info? 29).map (·.size) = some 12 by kernel_rfl, yvs_size, hm])
  clear hk hm
  have HE := Lib.hid el
  have HM := Lib.hid (And.intro ml nl)
  have BL := Lib.hid bl
  have XI := Lib.hid hx
  clear el bl ml nl hx
  go_enter Try.func5, Try.ntmps5
  go_wp2_with fail
  have hA0 := heap_alloc_new w (.cells (cutCells k m al lenl capl x) 47)
  have hB0 := (Below.refl w.heap.size w).alloc (Nat.le_refl _) (.cells (cutCells k m al lenl capl x) 47)
  refine (alive5_any _).mono ?_
  rintro e w1 ⟨rfl, hb1⟩
  have hA1 := (hb1.block w.heap.size (by simp)).trans hA0
  have HBW1 := Lib.hid (hB0.trans (hb1.mono hB0.size))
  have HLT1 := Lib.hid (show w.heap.size < w1.heap.size by have := hb1.size; simp at this; omega)
  have HS := Lib.hid (show ∀ W, Below w1.heap.size w1 W → W.rangeAt w.heap.size 0 (yvs k).toList ∧ W.rangeAt w.heap.size 32 (yvs m).toList ∧ W.cell? ⟨w.heap.size, 44, none⟩ = some (Value.slice al lenl capl) ∧ W.cell? ⟨w.heap.size, 45, none⟩ = some (Value.int .u16 (x : Int)) from fun W hW => cut_at ((hW.block _ HLT1.out).trans hA1) HkL.out HmL.out)
  clear hA0 hB0 hb1 hA1
  go_upto_region 3 with (fail)
  go_cut [3, 4, 5, 6] from 7 (fun v3 v4 v5 v6 wc => ∃ X Y, v3 = .pointer (some ⟨X, 0, none⟩) ∧ v4 = .pointer (some ⟨Y, 0, none⟩) ∧ v5 = .slice al lenl capl ∧ v6 = .int .u16 (x : Int) ∧ ArrY wc X 22 k ∧ ArrY wc Y 29 m ∧ Below w1.heap.size w1 wc)
  case first =>
    try simp only [Act.put]
    refine wp_region_noPanic ?_
    refine wp_region_held_drew (S := fun W => W.rangeAt w.heap.size 0 (yvs k).toList ∧ W.rangeAt w.heap.size 32 (yvs m).toList ∧ W.cell? ⟨w.heap.size, 44, none⟩ = some (Value.slice al lenl capl) ∧ W.cell? ⟨w.heap.size, 45, none⟩ = some (Value.int .u16 (x : Int))) (by kernel_rfl) (HS.out _ (Below.refl _ w1).drew) (fun hHeld => ?_)
    refine wpAnyH_take (i := 0) (oi := ⟨some 17, _, _, _, _, _⟩) (v := ?_) rfl (by kernel_rfl) (by decide +kernel) (by decide +kernel) (fun _ _ _ h => h) (Or.inl ⟨by rfl, ?_⟩) (by assumption) ?_
    rotate_left 1
    · (intro w' hSw; go_simp; try with_reducible rfl)
    try simp only [Act.put, List.setIfInBounds_toArray, List.set_cons_zero, List.set_cons_succ]
    refine wpAnyH_take (i := 1) (oi := ⟨some 18, _, _, _, _, _⟩) rfl (by kernel_rfl) (by decide +kernel) (by decide +kernel) (fun _ _ _ h => h) (yieldsIf_load_mid (by rfl) _ _ rfl (w.heap.size) (0) rfl (yvs k).toList _ (fun w' h => h.1) Try.underlying22 rfl Ik.out) (by assumption) ?_
    try simp only [Act.put, List.setIfInBounds_toArray, List.set_cons_zero, List.set_cons_succ, Array.toArray_toList]
    refine wpAnyH_take (i := 2) (oi := ⟨some 19, _, _, _, _, _⟩) (v := ?_) rfl (by kernel_rfl) (by decide +kernel) (by decide +kernel) (fun _ _ _ h => h) (Or.inl ⟨by rfl, ?_⟩) (by assumption) ?_
    rotate_left 1
    · (intro w' hSw; go_simp; try with_reducible rfl)
    try simp only [Act.put, List.setIfInBounds_toArray, List.set_cons_zero, List.set_cons_succ]
    refine wpAnyH_take (i := 3) (oi := ⟨some 20, _, _, _, _, _⟩) rfl (by kernel_rfl) (by decide +kernel) (by decide +kernel) (fun _ _ _ h => h) (yieldsIf_load_mid (by rfl) _ _ rfl (w.heap.size) (32) rfl (yvs m).toList _ (fun w' h => h.2.1) Try.underlying29 rfl Im.out) (by assumption) ?_
    try simp only [Act.put, List.setIfInBounds_toArray, List.set_cons_zero, List.set_cons_succ, Array.toArray_toList]
    refine wpAnyH_take (i := 4) (oi := ⟨some 21, _, _, _, _, _⟩) (v := ?_) rfl (by kernel_rfl) (by decide +kernel) (by decide +kernel) (fun _ _ _ h => h) (Or.inl ⟨by rfl, ?_⟩) (by assumption) ?_
    rotate_left 1
    · (intro w' hSw; go_simp; try with_reducible rfl)
    try simp only [Act.put, List.setIfInBounds_toArray, List.set_cons_zero, List.set_cons_succ]
    refine wpAnyH_take (i := 5) (oi := ⟨some 22, _, _, _, _, _⟩) (v := ?_) rfl (by kernel_rfl) (by decide +kernel) (by decide +kernel) (fun _ _ _ h => h) (Or.inl ⟨by rfl, ?_⟩) (by assumption) ?_
    rotate_left 1
    · (intro w' hSw; have hcell := hSw.2.2.1; clear hSw; go_simp; try with_reducible rfl)
    try simp only [Act.put, List.setIfInBounds_toArray, List.set_cons_zero, List.set_cons_succ]
    refine wpAnyH_take (i := 6) (oi := ⟨some 23, _, _, _, _, _⟩) (v := ?_) rfl (by kernel_rfl) (by decide +kernel) (by decide +kernel) (fun _ _ _ h => h) (Or.inl ⟨by rfl, ?_⟩) (by assumption) ?_
    rotate_left 1
    · (intro w' hSw; go_simp; try with_reducible rfl)
    try simp only [Act.put, List.setIfInBounds_toArray, List.set_cons_zero, List.set_cons_succ]
    refine wpAnyH_take (i := 7) (oi := ⟨some 24, _, _, _, _, _⟩) (v := ?_) rfl (by kernel_rfl) (by decide +kernel) (by decide +kernel) (fun _ _ _ h => h) (Or.inl ⟨by rfl, ?_⟩) (by assumption) ?_
    rotate_left 1
    · (intro w' hSw; have hcell := hSw.2.2.2; clear hSw; go_simp; try with_reducible rfl)
    try simp only [Act.put, List.setIfInBounds_toArray, List.set_cons_zero, List.set_cons_succ]
    clear hHeld
    have HB0 := Lib.hid (Below.refl w1.heap.size w1).drew
    refine wpAnyH_ready (rs := [8, 9]) (by decide +kernel) (by simp) ?_
    refine AllReadyH.cons rfl (fun K hK => ?_) (AllReadyH.cons rfl (fun K hK => ?_) AllReadyH.nil)
    · go_simp
      have hal := HB0.out.alloc HB0.out.size (.cells (yvs (zeroY 32)) 22)
      have hxl := heap_alloc_new (w1.drew) (.cells (yvs (zeroY 32)) 22)
      have hst := (Below.refl (w1.drew).heap.size (w1.drew)).alloc (Nat.le_refl _) (.cells (yvs (zeroY 32)) 22)
      refine hK.out _ _ (HS.out _ hal) (fun hHeld => ?_)
      clear hK K hHeld
      try simp only [Act.put, List.setIfInBounds_toArray, List.set_cons_zero, List.set_cons_succ]
      refine (show ∀ wb1 : World, wb1 = (w1.drew).alloc (.cells (yvs (zeroY 32)) 22) → _ from ?_) _ rfl
      intro wb1 ew
      rw [← ew] at hal hxl hst
      have HB1 := Lib.hid hal
      have HX1 := Lib.hid (show ArrY wb1 (w1.drew).heap.size 22 (zeroY 32) from hxl)
      have HNX1 := Lib.hid HB0.out.size
      clear ew hal hxl hst
      refine wpAnyH_ready (rs := [9]) (by decide +kernel) (by simp) ?_
      refine AllReadyH.cons rfl (fun K hK => ?_) AllReadyH.nil
      go_simp
      have hal := HB1.out.alloc HB1.out.size (.cells (yvs (zeroY 12)) 29)
      have hxl := heap_alloc_new (wb1) (.cells (yvs (zeroY 12)) 29)
      have hst := (Below.refl (wb1).heap.size (wb1)).alloc (Nat.le_refl _) (.cells (yvs (zeroY 12)) 29)
      refine hK.out _ _ (HS.out _ hal) (fun hHeld => ?_)
      clear hK K hHeld
      try simp only [Act.put, List.setIfInBounds_toArray, List.set_cons_zero, List.set_cons_succ]
      refine (show ∀ wb2 : World, wb2 = (wb1).alloc (.cells (yvs (zeroY 12)) 29) → _ from ?_) _ rfl
      intro wb2 ew
      rw [← ew] at hal hxl hst
      have HX2 := Lib.hid (HX1.out.below hst (zlt HX1.out))
      have NEXY2 := Lib.hid (show (w1.drew).heap.size ≠ (wb1).heap.size from Nat.ne_of_lt (zlt HX1.out))
      have HB2 := Lib.hid hal
      have HY2 := Lib.hid (show ArrY wb2 (wb1).heap.size 29 (zeroY 12) from hxl)
      have HNY2 := Lib.hid HB1.out.size
      clear ew hal hxl hst
      refine wpAnyH_ready (rs := [10]) (by decide +kernel) (by simp) ?_
      refine AllReadyH.cons rfl (fun K hK => ?_) AllReadyH.nil
      rw [if_pos (by kernel_rfl)]
      refine wp_store_row (o := ⟨none, .store _ (.tmp 3) _, _, _, _, _⟩) 22 _ _ rfl ((w1.drew).heap.size) (yvs k) rfl rfl 22 (yvs (zeroY 32)) (show (wb2).heap[(w1.drew).heap.size]? = _ from HX2.out) Ak.out Ek.out (yvs_one _) ?_
      refine hK.out _ _ (HS.out _ (ybelow_row HB2.out HNX1.out (yvs k))) (fun hHeld => ?_)
      clear hK K hHeld
      simp only [Act.put]
      refine wpAnyH_ready (rs := [11]) (by decide +kernel) (by simp) ?_
      refine AllReadyH.cons rfl (fun K hK => ?_) AllReadyH.nil
      rw [if_pos (by kernel_rfl)]
      refine wp_store_row (o := ⟨none, .store _ (.tmp 4) _, _, _, _, _⟩) 29 _ _ rfl ((wb1).heap.size) (yvs m) rfl rfl 29 (yvs (zeroY 12)) (show (((wb2).setRow ((w1.drew).heap.size) (yvs k))).heap[(wb1).heap.size]? = _ from ((setRow_other _ _ _ _ (Ne.symm NEXY2.out)).trans HY2.out)) Am.out Em.out (yvs_one _) ?_
      refine hK.out _ _ (HS.out _ (ybelow_row (ybelow_row HB2.out HNX1.out (yvs k)) HNY2.out (yvs m))) (fun hHeld => ?_)
      clear hK K hHeld
      simp only [Act.put]
      have hHeld := HS.out _ (ybelow_row (ybelow_row HB2.out HNX1.out (yvs k)) HNY2.out (yvs m))
      refine wpAnyH_take (i := 12) (oi := ⟨some 5, _, _, _, _, _⟩) (v := ?_) rfl (by kernel_rfl) (by decide +kernel) (by decide +kernel) (fun _ _ _ h => h) (Or.inl ⟨by rfl, ?_⟩) (by assumption) ?_
      rotate_left 1
      · (intro w' hSw; go_simp; try with_reducible rfl)
      try simp only [Act.put, List.setIfInBounds_toArray, List.set_cons_zero, List.set_cons_succ]
      refine wpAnyH_take (i := 13) (oi := ⟨some 6, _, _, _, _, _⟩) (v := ?_) rfl (by kernel_rfl) (by decide +kernel) (by decide +kernel) (fun _ _ _ h => h) (Or.inl ⟨by rfl, ?_⟩) (by assumption) ?_
      rotate_left 1
      · (intro w' hSw; go_simp; try with_reducible rfl)
      try simp only [Act.put, List.setIfInBounds_toArray, List.set_cons_zero, List.set_cons_succ]
      clear hHeld
      refine wpAnyH_done (by decide +kernel) ?_ _
      refine NoPanic.normal ?_
      go_wp2_with fail
      go_meet
      exact ⟨(w1.drew).heap.size, (wb1).heap.size, rfl, rfl, rfl, rfl, ((setRow_other _ _ _ _ NEXY2.out).trans (setRow_heap _ _ _ (yvs k) _ _ HX2.out)), (setRow_heap _ _ _ (yvs m) _ _ ((setRow_other _ _ _ _ (Ne.symm NEXY2.out)).trans HY2.out)), (ybelow_row (ybelow_row HB2.out HNX1.out (yvs k)) HNY2.out (yvs m))⟩
    · go_simp
      have hal := HB0.out.alloc HB0.out.size (.cells (yvs (zeroY 12)) 29)
      have hxl := heap_alloc_new (w1.drew) (.cells (yvs (zeroY 12)) 29)
      have hst := (Below.refl (w1.drew).heap.size (w1.drew)).alloc (Nat.le_refl _) (.cells (yvs (zeroY 12)) 29)
      refine hK.out _ _ (HS.out _ hal) (fun hHeld => ?_)
      clear hK K hHeld
      try simp only [Act.put, List.setIfInBounds_toArray, List.set_cons_zero, List.set_cons_succ]
      refine (show ∀ wb5 : World, wb5 = (w1.drew).alloc (.cells (yvs (zeroY 12)) 29) → _ from ?_) _ rfl
      intro wb5 ew
      rw [← ew] at hal hxl hst
      have HB5 := Lib.hid hal
      have HY5 := Lib.hid (show ArrY wb5 (w1.drew).heap.size 29 (zeroY 12) from hxl)
      have HNY5 := Lib.hid HB0.out.size
      clear ew hal hxl hst
      refine wpAnyH_ready (rs := [8]) (by decide +kernel) (by simp) ?_
      refine AllReadyH.cons rfl (fun K hK => ?_) AllReadyH.nil
      go_simp
      have hal := HB5.out.alloc HB5.out.size (.cells (yvs (zeroY 32)) 22)
      have hxl := heap_alloc_new (wb5) (.cells (yvs (zeroY 32)) 22)
      have hst := (Below.refl (wb5).heap.size (wb5)).alloc (Nat.le_refl _) (.cells (yvs (zeroY 32)) 22)
      refine hK.out _ _ (HS.out _ hal) (fun hHeld => ?_)
      clear hK K hHeld
      try simp only [Act.put, List.setIfInBounds_toArray, List.set_cons_zero, List.set_cons_succ]
      refine (show ∀ wb6 : World, wb6 = (wb5).alloc (.cells (yvs (zeroY 32)) 22) → _ from ?_) _ rfl
      intro wb6 ew
      rw [← ew] at hal hxl hst
      have HY6 := Lib.hid (HY5.out.below hst (zlt HY5.out))
      have NEYX6 := Lib.hid (show (w1.drew).heap.size ≠ (wb5).heap.size from Nat.ne_of_lt (zlt HY5.out))
      have HB6 := Lib.hid hal
      have HX6 := Lib.hid (show ArrY wb6 (wb5).heap.size 22 (zeroY 32) from hxl)
      have HNX6 := Lib.hid HB5.out.size
      clear ew hal hxl hst
      refine wpAnyH_ready (rs := [10]) (by decide +kernel) (by simp) ?_
      refine AllReadyH.cons rfl (fun K hK => ?_) AllReadyH.nil
      rw [if_pos (by kernel_rfl)]
      refine wp_store_row (o := ⟨none, .store _ (.tmp 3) _, _, _, _, _⟩) 22 _ _ rfl ((wb5).heap.size) (yvs k) rfl rfl 22 (yvs (zeroY 32)) (show (wb6).heap[(wb5).heap.size]? = _ from HX6.out) Ak.out Ek.out (yvs_one _) ?_
      refine hK.out _ _ (HS.out _ (ybelow_row HB6.out HNX6.out (yvs k))) (fun hHeld => ?_)
      clear hK K hHeld
      simp only [Act.put]
      refine wpAnyH_ready (rs := [11]) (by decide +kernel) (by simp) ?_
      refine AllReadyH.cons rfl (fun K hK => ?_) AllReadyH.nil
      rw [if_pos (by kernel_rfl)]
      refine wp_store_row (o := ⟨none, .store _ (.tmp 4) _, _, _, _, _⟩) 29 _ _ rfl ((w1.drew).heap.size) (yvs m) rfl rfl 29 (yvs (zeroY 12)) (show (((wb6).setRow ((wb5).heap.size) (yvs k))).heap[(w1.drew).heap.size]? = _ from ((setRow_other _ _ _ _ NEYX6.out).trans HY6.out)) Am.out Em.out (yvs_one _) ?_
      refine hK.out _ _ (HS.out _ (ybelow_row (ybelow_row HB6.out HNX6.out (yvs k)) HNY5.out (yvs m))) (fun hHeld => ?_)
      clear hK K hHeld
      simp only [Act.put]
      have hHeld := HS.out _ (ybelow_row (ybelow_row HB6.out HNX6.out (yvs k)) HNY5.out (yvs m))
      refine wpAnyH_take (i := 12) (oi := ⟨some 5, _, _, _, _, _⟩) (v := ?_) rfl (by kernel_rfl) (by decide +kernel) (by decide +kernel) (fun _ _ _ h => h) (Or.inl ⟨by rfl, ?_⟩) (by assumption) ?_
      rotate_left 1
      · (intro w' hSw; go_simp; try with_reducible rfl)
      try simp only [Act.put, List.setIfInBounds_toArray, List.set_cons_zero, List.set_cons_succ]
      refine wpAnyH_take (i := 13) (oi := ⟨some 6, _, _, _, _, _⟩) (v := ?_) rfl (by kernel_rfl) (by decide +kernel) (by decide +kernel) (fun _ _ _ h => h) (Or.inl ⟨by rfl, ?_⟩) (by assumption) ?_
      rotate_left 1
      · (intro w' hSw; go_simp; try with_reducible rfl)
      try simp only [Act.put, List.setIfInBounds_toArray, List.set_cons_zero, List.set_cons_succ]
      clear hHeld
      refine wpAnyH_done (by decide +kernel) ?_ _
      refine NoPanic.normal ?_
      go_wp2_with fail
      go_meet
      exact ⟨(wb5).heap.size, (w1.drew).heap.size, rfl, rfl, rfl, rfl, ((setRow_other _ _ _ _ (Ne.symm NEYX6.out)).trans (setRow_heap _ _ _ (yvs k) _ _ HX6.out)), (setRow_heap _ _ _ (yvs m) _ _ ((setRow_other _ _ _ _ NEYX6.out).trans HY6.out)), (ybelow_row (ybelow_row HB6.out HNX6.out (yvs k)) HNY5.out (yvs m))⟩
  case rest =>
    obtain ⟨X, Y, rfl, rfl, rfl, rfl, hX, hY, hbc⟩ := hcut
    have H0 := Lib.hid (show CW w wc X Y k m from ⟨hX, hY, HBW1.out.trans (hbc.mono HBW1.out.size)⟩)
    have BL0 := Lib.hid (BL.out.kept H0.out.bel)
    clear hX hY hbc HS HBW1 HLT1 BL
    by_cases h2 : 2000 < lenl
    · have h2I : (2000 : Int) < (lenl : Int) := by omega
      clear h2
      go_wp2_with fail
      go_ret
      exact ⟨rfl, H0.out.bel⟩
    have h2I : (lenl : Int) ≤ 2000 := by omega
    have H2 := Lib.hid (show lenl ≤ 2000 by omega)
    have HBUF := Lib.hid (World.ownsRow_lit (base := wc.heap.size) (e := 5) (size := 1) wc #[] 0 (Nat.le_refl _) (by unfold maxLen; omega) rfl)
    have HB2 := Lib.hid (show Below wc.heap.size wc (wc.alloc (.cells #[] 5)) from (Below.refl _ _).alloc (Nat.le_refl _) _)
    have A1 := Lib.hid (BL0.out.kept HB2.out)
    have HLE := Lib.hid (show 0 + (l.map yv).length ≤ 140737488355328 by rw [List.length_map, HE.out]; omega)
    clear h2
    go_upto_region 7 with (first
      | (at_builtin; with_reducible refine wpList_append_BS (o := ⟨some 30, _, _, _, _, _⟩) rfl _ _ rfl wc.heap.size (.slice (some ⟨wc.heap.size, 0, none⟩) 0 0) 0 [] rfl HBUF.out (.slice al lenl capl) (l.map yv) rfl A1.out HLE.out (by simp) ?_; intro v7 w7 ho7 hg7))
    have hb7 := HB2.out.grown hg7 (by simp) (by intro k hk; simp [Value.ownBlock] at hk; omega)
    rw [List.nil_append, Nat.zero_add, List.length_map, HE.out] at ho7
    obtain ⟨a7, cap7, rfl, h7, h7m, B7⟩ := own_bytes ho7 HE.out
    have H7 := Lib.hid (H0.out.below hb7)
    have BL7 := Lib.hid (BL0.out.kept hb7)
    have BI7 := Lib.hid B7
    have HC7 := Lib.hid (And.intro h7 h7m)
    clear hg7 hb7 ho7 B7 h7 h7m A1 HBUF HB2 HLE H0 BL0
    have HK7 := Lib.hid (show w7.heap[X]? = some (.cells (yvs k) 22 (0, 0)) from H7.out.key)
    have HN7 := Lib.hid (show w7.heap[Y]? = some (.cells (yvs m) 29 (0, 0)) from H7.out.non)
    go_wp2_with (first
      | (with_reducible refine wpList_load_row (o := ⟨some 32, _, _, _, _, _⟩) rfl 22 _ rfl X rfl 22 (yvs k) (0, 0) _ HK7.out Try.underlying22 rfl Sk.out ?_)
      | (with_reducible refine wpList_load_row (o := ⟨some 33, _, _, _, _, _⟩) rfl 29 _ rfl Y rfl 29 (yvs m) (0, 0) _ HN7.out Try.underlying29 rfl Sm.out ?_))
    obtain ⟨S, hS⟩ : ∃ y, strL (keysL k) m 0 lenl = y := ⟨_, rfl⟩
    have hSl : S.length = lenl := by rw [← hS, strL_length]
    have hcr := crypt_ok k m l a7 lenl cap7 w7 BI7.out HE.out (by have := H2.out; omega) HkL.out HmL.out
    rw [hS] at hcr
    refine hcr.mono ?_
    clear hcr
    rintro e w8 ⟨rfl, hA8, hb8⟩
    generalize w7.heap.size + 1 + 1 + 1 + 1 = P8 at *
    obtain ⟨XL, hXL⟩ : ∃ y, sumB l S = y := ⟨_, rfl⟩
    have hxl : XL.length = lenl := by rw [← hXL]; exact sumB_length _ _ _ HE.out hSl
    have htw : sumB XL S = l := by rw [← hXL]; exact sumB_twice l S (by rw [HE.out, hSl])
    rw [hXL] at hA8
    have HS0 := Lib.hid (show strL (keysL k) m 0 lenl = S ∧ sumB l S = XL from ⟨hS, hXL⟩)
    have HTW := Lib.hid (And.intro hxl htw)
    have H8 := Lib.hid (H7.out.below hb8)
    have BL8 := Lib.hid (BL7.out.kept hb8)
    have BI8 := Lib.hid (BI7.out.kept hb8)
    have HA8 := Lib.hid hA8
    clear hA8 hb8 hS hXL hxl htw hSl H7 BL7 BI7 HK7 HN7
    have HK8 := Lib.hid (show w8.heap[X]? = some (.cells (yvs k) 22 (0, 0)) from H8.out.key)
    have HN8 := Lib.hid (show w8.heap[Y]? = some (.cells (yvs m) 29 (0, 0)) from H8.out.non)
    go_wp2_with (first
      | (with_reducible refine wpList_load_row (o := ⟨some 39, _, _, _, _, _⟩) rfl 22 _ rfl X rfl 22 (yvs k) (0, 0) _ HK8.out Try.underlying22 rfl Sk.out ?_)
      | (with_reducible refine wpList_load_row (o := ⟨some 40, _, _, _, _, _⟩) rfl 29 _ rfl Y rfl 29 (yvs m) (0, 0) _ HN8.out Try.underlying29 rfl Sm.out ?_))
    have hcr := crypt_ok k m XL (some ⟨P8, 0, none⟩) lenl lenl w8 (BS.of_arr0 HA8.out HTW.out.1) HTW.out.1 (by have := H2.out; omega) HkL.out HmL.out
    rw [HS0.out.1, HTW.out.2] at hcr
    refine hcr.mono ?_
    clear hcr
    rintro e w9 ⟨rfl, hA9, hb9⟩
    generalize w8.heap.size + 1 + 1 + 1 + 1 = P9 at *
    have H9 := Lib.hid (H8.out.below hb9)
    have BL9 := Lib.hid (BL8.out.kept hb9)
    have BI9 := Lib.hid (BI8.out.kept hb9)
    have BX9 := Lib.hid (BS.of_arr0 (n := lenl) (cap := lenl) (HA8.out.below hb9 (zlt HA8.out)) HTW.out.1)
    have BY9 := Lib.hid (BS.of_arr0 (n := lenl) (cap := lenl) hA9 HE.out)
    clear hA9 hb9 H8 BL8 BI8 HA8 HK8 HN8
    obtain ⟨i, hi, hi2⟩ : ∃ i : Nat, (x : Int) % ((lenl : Int) + 1) = (i : Int) ∧ x % (lenl + 1) = i := ⟨x % (lenl + 1), by simp, rfl⟩
    have hil : i ≤ lenl := by have := Nat.mod_lt x (show 0 < lenl + 1 by omega); omega
    have xI : (x : Int) < 65536 := by have := XI.out; omega
    have x0 : (0 : Int) ≤ (x : Int) := by omega
    have HIL := Lib.hid hil
    clear hi2 hil
    go_upto_region 10 with fail
    simp only [hi]
    clear hi xI x0
    obtain ⟨a10, hsl, B10⟩ := slice_to w9 a7 lenl cap7 i l BI9.out HE.out HIL.out HC7.out.1
    have HC10 := Lib.hid (show ∀ W, Below w9.heap.size w9 W → Calls Try.prog 18 #[.agg (yvs k), .agg (yvs m), .slice a10 i cap7] W fun e w' => e = .returned (.tuple #[.slice (some ⟨W.heap.size + 1 + 1 + 1 + 1, 0, none⟩) i i, .int .i64 0]) ∧ ArrY w' (W.heap.size + 1 + 1 + 1 + 1) 5 (XL.take i) ∧ Below W.heap.size W w' from fun W hW => by
      have hlen : (l.take i).length = i := by rw [List.length_take, HE.out]; have := HIL.out; omega
      have h := crypt_ok k m (l.take i) a10 i cap7 W (B10.kept hW) hlen (by have := H2.out; have := HIL.out; omega) HkL.out HmL.out
      rw [← strL_take (keysL k) m 0 lenl i HIL.out, HS0.out.1, ← sumB_take, HS0.out.2] at h
      exact h)
    have HSV := Lib.hid (show ∀ W, Below w9.heap.size w9 W → W.rangeAt X 0 (yvs k).toList ∧ W.rangeAt Y 0 (yvs m).toList from fun W hW => ⟨(H9.out.below hW).key.all, (H9.out.below hW).non.all⟩)
    clear B10
    try simp only [Act.put]
    refine wp_region_noPanic ?_
    refine wp_region_held_drew (S := fun W => W.rangeAt X 0 (yvs k).toList ∧ W.rangeAt Y 0 (yvs m).toList) (by kernel_rfl) (HSV.out _ (Below.refl _ w9).drew) (fun hHeld => ?_)
    refine wpAnyH_take (i := 0) (oi := ⟨some 52, _, _, _, _, _⟩) rfl (by kernel_rfl) (by decide +kernel) (by decide +kernel) (fun _ _ _ h => h) (yieldsIf_load_mid (by rfl) _ _ rfl (X) (0) rfl (yvs k).toList _ (fun w' h => h.1) Try.underlying22 rfl Ik.out) (by assumption) ?_
    try simp only [Act.put, List.setIfInBounds_toArray, List.set_cons_zero, List.set_cons_succ, Array.toArray_toList]
    refine wpAnyH_take (i := 1) (oi := ⟨some 53, _, _, _, _, _⟩) rfl (by kernel_rfl) (by decide +kernel) (by decide +kernel) (fun _ _ _ h => h) (yieldsIf_load_mid (by rfl) _ _ rfl (Y) (0) rfl (yvs m).toList _ (fun w' h => h.2) Try.underlying29 rfl Im.out) (by assumption) ?_
    try simp only [Act.put, List.setIfInBounds_toArray, List.set_cons_zero, List.set_cons_succ, Array.toArray_toList]
    refine wpAnyH_take (i := 2) (oi := ⟨some 54, _, _, _, _, _⟩) (v := ?_) rfl (by kernel_rfl) (by decide +kernel) (by decide +kernel) (fun _ _ _ h => h) (Or.inl ⟨by rfl, ?_⟩) (by assumption) ?_
    rotate_left 1
    · (intro w' hSw; go_simp; try with_reducible rfl)
    try simp only [Act.put, List.setIfInBounds_toArray, List.set_cons_zero, List.set_cons_succ]
    refine wpAnyH_take (i := 3) (oi := ⟨some 55, _, _, _, _, _⟩) (v := ?_) rfl (by kernel_rfl) (by decide +kernel) (by decide +kernel) (fun _ _ _ h => h) (Or.inl ⟨by rfl, ?_⟩) (by assumption) ?_
    rotate_left 1
    · (intro w' hSw; go_simp; try with_reducible rfl)
    try simp only [Act.put, List.setIfInBounds_toArray, List.set_cons_zero, List.set_cons_succ]
    refine wpAnyH_take (i := 4) (oi := ⟨some 56, _, _, _, _, _⟩) (v := ?_) rfl (by kernel_rfl) (by decide +kernel) (by decide +kernel) (fun _ _ _ h => h) (Or.inl ⟨by rfl, ?_⟩) (by assumption) ?_
    rotate_left 1
    · (intro w' hSw; go_simp; try with_reducible rfl)
    try simp only [Act.put, List.setIfInBounds_toArray, List.set_cons_zero, List.set_cons_succ]
    clear hHeld hsl
    refine wpAnyH_ready (rs := [5]) (by decide +kernel) (by simp) ?_
    refine AllReadyH.cons rfl (fun K hK => ?_) AllReadyH.nil
    go_simp
    go_at_call 18
    refine (HC10.out _ (Below.refl _ w9).drew).mono ?_
    rintro e w10 ⟨rfl, hA10, hb⟩
    have HB10 := Lib.hid ((Below.refl w9.heap.size w9).drew.trans (hb.mono (Below.refl w9.heap.size w9).drew.size))
    generalize w9.drew.heap.size + 1 + 1 + 1 + 1 = P10 at *
    have HA10 := Lib.hid hA10
    clear hA10 hb
    go_wp2_with fail
    refine hK.out _ _ (HSV.out _ HB10.out) (fun hHeld => ?_)
    clear hK K
    try simp only [Act.put, List.setIfInBounds_toArray, List.set_cons_zero, List.set_cons_succ]
    refine wpAnyH_take (i := 6) (oi := ⟨some 51, _, _, _, _, _⟩) (v := ?_) rfl (by kernel_rfl) (by decide +kernel) (by decide +kernel) (fun _ _ _ h => h) (Or.inl ⟨by rfl, ?_⟩) (by assumption) ?_
    rotate_left 1
    · (intro w' hSw; go_simp; try with_reducible rfl)
    try simp only [Act.put, List.setIfInBounds_toArray, List.set_cons_zero, List.set_cons_succ]
    refine wpAnyH_take (i := 7) (oi := ⟨some 58, _, _, _, _, _⟩) (v := ?_) rfl (by kernel_rfl) (by decide +kernel) (by decide +kernel) (fun _ _ _ h => h) (Or.inl ⟨by rfl, ?_⟩) (by assumption) ?_
    rotate_left 1
    · (intro w' hSw; go_simp; try with_reducible rfl)
    try simp only [Act.put, List.setIfInBounds_toArray, List.set_cons_zero, List.set_cons_succ]
    refine wpAnyH_take (i := 8) (oi := ⟨some 59, _, _, _, _, _⟩) (v := ?_) rfl (by kernel_rfl) (by decide +kernel) (by decide +kernel) (fun _ _ _ h => h) (Or.inl ⟨by rfl, ?_⟩) (by assumption) ?_
    rotate_left 1
    · (intro w' hSw; go_simp; try with_reducible rfl)
    try simp only [Act.put, List.setIfInBounds_toArray, List.set_cons_zero, List.set_cons_succ]
    refine wpAnyH_take (i := 9) (oi := ⟨some 13, _, _, _, _, _⟩) (v := ?_) rfl (by kernel_rfl) (by decide +kernel) (by decide +kernel) (fun _ _ _ h => h) (Or.inl ⟨by rfl, ?_⟩) (by assumption) ?_
    rotate_left 1
    · (intro w' hSw; go_simp; try with_reducible rfl)
    try simp only [Act.put, List.setIfInBounds_toArray, List.set_cons_zero, List.set_cons_succ]
    refine wpAnyH_take (i := 10) (oi := ⟨some 14, _, _, _, _, _⟩) (v := ?_) rfl (by kernel_rfl) (by decide +kernel) (by decide +kernel) (fun _ _ _ h => h) (Or.inl ⟨by rfl, ?_⟩) (by assumption) ?_
    rotate_left 1
    · (intro w' hSw; go_simp; try with_reducible rfl)
    try simp only [Act.put, List.setIfInBounds_toArray, List.set_cons_zero, List.set_cons_succ]
    clear hHeld
    refine wpAnyH_done (by decide +kernel) ?_ _
    refine NoPanic.normal ?_
    have hlt : (XL.take i).length = i := by rw [List.length_take, HTW.out.1]; have := HIL.out; omega
    obtain ⟨a11, hsl, B11⟩ := slice_to w10 (some ⟨P8, 0, none⟩) lenl lenl i XL (BX9.out.kept HB10.out) HTW.out.1 HIL.out (Nat.le_refl _)
    have S1 := Lib.hid (same_eq w10 _ _ _ (BY9.out.kept HB10.out) (BL9.out.kept HB10.out))
    have S2 := Lib.hid (same_eq w10 _ _ _ (BI9.out.kept HB10.out) (BL9.out.kept HB10.out))
    have S3 := Lib.hid (same_eq w10 _ _ _ (BS.of_arr0 (n := i) (cap := i) HA10.out hlt) B11)
    have HEND := Lib.hid (H9.out.below HB10.out).bel
    clear hlt B11 HA10 HB10 HC10 HSV
    go_wp2_with fail
    refine S1.out.mono ?_
    rintro e w11 ⟨rfl, rfl⟩
    go_wp2_with fail
    refine S2.out.mono ?_
    rintro e w12 ⟨rfl, rfl⟩
    go_wp2_with fail
    refine S3.out.mono ?_
    rintro e w13 ⟨rfl, rfl⟩
    go_wp2_with fail
    go_ret
    exact ⟨by simp, HEND.out⟩
set_option maxRecDepth 100000 in
theorem lifted (os : Os) (started : os.Started) (H : Type) (enc : TypeId × Value → H) :
    ReturnsInHanded {} Try.checked os 5 .any (Rows.ctrBackSpec.pre6 enc Try.prog Try.f5 Rows.ctrBackRow.domain false) (Rows.ctrBackSpec.post enc Try.prog Try.f5 false true false false) := by
  refine returnsInHanded_of_change_sized (C := Try.checked) own started (by kernel_rfl) Try.func5
    (ChangeSpec.witness6 (enc := enc) (C := Try.checked) false ⟨#[], #[.agg (cutCells (zeroY 32) (zeroY 12) none 0 0 0)], []⟩ 8 (by kernel_rfl) (by kernel_rfl) (by kernel_rfl) (by kernel_rfl)) ?_
  intro W base args ds gs before hval0 hW hcnd hsz0 _
  have hsz : (DataW.weightsEach Try.prog (Try.f5.params.toList ++ Rows.ctrBackSpec.plain.varTypes Try.prog) (ds ++ gs)).all (· ≤ reachBytes) = true := hsz0
  clear hsz0
  have hval : ∀ (j : Nat) t v, Try.f5.params[j]? = some t → args[j]? = some v → Value.okWide Try.prog W .any base t v := hval0
  have hW' := hW
  obtain ⟨p, q, hA0, hV, rfl, hfz, hnd⟩ := hW
  have hA : DataW.TrodAll enc Try.prog W 0 (fun _ => true) true Try.f5.params.toList args.toList ds p := hA0
  rw [Try.params5] at hA hval hsz
  obtain ⟨v0, vs0, d0, ds0, p0, q0, hargs, rfl, rfl, h0, r0⟩ := trodAll_cons hA
  obtain ⟨rfl, rfl, rfl⟩ := trodAll_nil r0
  obtain rfl : args = #[v0] := by cases args; simp_all
  obtain ⟨rfl, rfl⟩ := trodVars_none hV
  have k0 := h0
  have lt0 : ∀ x ∈ p0, x.block < W.heap.size := by obtain ⟨m, hm⟩ := k0; exact DataW.trod_lt m _ _ _ hm
  obtain ⟨k, m, al, lenl, capl, l, x, rfl, hk, hm, el, bl, ml, nl, hx⟩ := open_cut (hval 0 47 v0 rfl rfl) h0 hsz
  clear hA0 hval0
  simp only [List.append_nil] at hW'
  refine (walk W k m al lenl capl l x hk hm el bl ml nl hx).mono fun e W' ⟨he, bel⟩ => ?_
  subst he
  exact ⟨_, rfl, _, _, _, [], _, [], hW', trodAll_mk1 (shut_bool Try.underlying4 _), (trodAll_cons_mk (Below.trod laidOut (by kernel_rfl) (of_decide_eq_true (by kernel_rfl)) k0 bel lt0) trodAll_mk0), rfl, bel.frame _, fun h => by cases h⟩

theorem over : Rows.ctrBackRow.holds Try.pinned (OpenSpec.ofChange Rows.ctrBackSpec) :=
  OpenClaim.holds_of_wide 5 Try.f5 rfl rfl rfl rfl rfl rfl rfl ⟨rfl, rfl, rfl, rfl, rfl⟩ rfl rfl rfl rfl rfl (by kernel_rfl) Try.func5 (by kernel_rfl)
    (of_decide_eq_true (by kernel_rfl)) (by unfold Func.isWrapper; first | (rw [if_pos (by decide +kernel)]; kernel_rfl) | (rw [if_neg (by decide +kernel)]; exact ⟨rfl, rfl⟩))
    (fun os started H enc _ => lifted os started H enc)

/-- The statement. -/
theorem proved : Rows.CtrBackSaid := over
#print axioms proved
end Go.Proofs.Ytajfooefofafmaa.ctrBack
