/-
  'CtrSums' returns true at every input, and each argument reads behind the call as it read before. Conditions: none.
-/
import Derived.Test.YtajfooefofafmaaRows
import Derived.Test.YtajfooefofafmaaYLaid
import Derived.Test.YtajfooefofafmaaCOpen
import Derived.Test.YtajfooefofafmaaCUse
import Derived.Deep.CutRange
import Derived.StillTailTactics
namespace Go.Proofs.Ytajfooefofafmaa.ctrSums
open Go.ChangeShapes Go.WideShapes Go.ChangeAt Go.RowKit
set_option linter.unusedVariables false

theorem sums_full (l r : List (BitVec 8)) (q : Nat) (hl : q ≤ l.length) (hr : q ≤ r.length) : setF id (fun i => l.getD i 0 ^^^ r.getD i 0) q (zeroY q) = sumB (l.take q) (r.take q) := by
  apply List.ext_getElem?
  intro i
  by_cases hi : i < q
  · rw [setF_id_at _ _ _ _ (by simpa [zeroY] using hi), if_pos hi]
    have i1 : i < l.length := by omega
    have i2 : i < r.length := by omega
    simp [sumB, List.getElem?_zipWith, List.getD, i1, i2, hi]
  · rw [List.getElem?_eq_none (by rw [setF_length]; simp [zeroY]; omega), List.getElem?_eq_none (by simp [sumB]; omega)]
theorem sum_at (a b : List (BitVec 8)) (q i : Nat) (ha : a.length = q) (hb : b.length = q) (hi : i < q) : (sumB a b).getD i 0 = a.getD i 0 ^^^ b.getD i 0 := by
  have i1 : i < a.length := by omega
  have i2 : i < b.length := by omega
  simp [sumB, List.getElem?_zipWith, List.getD, i1, i2]
theorem take_at (l : List (BitVec 8)) (q i : Nat) (hi : i < q) : (l.take q).getD i 0 = l.getD i 0 := by simp [List.getD, hi]
theorem min_cast (a b : Nat) : min (a : Int) (b : Int) = ((min a b : Nat) : Int) := by omega

set_option maxRecDepth 100000 in
set_option maxHeartbeats 3200000 in
theorem walk (w : World) (k : List (BitVec 8)) (m : List (BitVec 8)) (al : Option Addr) (lenl capl : Nat) (l : List (BitVec 8)) (ar : Option Addr) (lenr capr : Nat) (r : List (BitVec 8)) (hk : k.length = 32) (hm : m.length = 12) (el : l.length = lenl) (bl : BS w (.slice al lenl capl) (l.map yv)) (ml : lenl ≤ capl) (nl : capl ≤ 140737488351232) (er : r.length = lenr) (br : BS w (.slice ar lenr capr) (r.map yv)) (mr : lenr ≤ capr) (nr : capr ≤ 140737488351232) :
    Calls Try.prog 9 #[.agg (bothCells k m al lenl capl ar lenr capr)] w fun e w' => e = .returned (.bool true) ∧ Below w.heap.size w w' := by
  have HkL := Lib.hid hk
  have HmL := Lib.hid hm
  have Sk := Lib.hid (size_k32 k hk)
  have Sm := Lib.hid (size_n12 m hm)
  have Ik := Lib.hid (show (Try.prog.info? 22).map (·.size) = some (yvs k).toList.length by rw [Array.length_toList]; exact Sk.out)
  have Im := Lib.hid (show (Try.prog.info? 29).map (·.size) = some (yvs m).toList.length by rw [Array.length_toList]; exact Sm.out)
  have Ek := Lib.hid (show (yvs (zeroY 32)).size = (yvs k).size by rw [yvs_size, yvs_size, hk]; simp [zeroY])
  have Ak := Lib.hid (show (Try.prog.info? 22).map (·.size) = some (yvs k).size by rw [show (Try.prog.info? 22).map (·.size) = some 32 by kernel_rfl, yvs_size, hk])
  have Em := Lib.hid (show (yvs (zeroY 12)).size = (yvs m).size by rw [yvs_size, yvs_size, hm]; simp [zeroY])
  have Am := Lib.hid (show (Try.prog.info? 29).map (·.size) = some (yvs m).size by rw [show (Try.prog.info? 29).map (·.size) = some 12 by kernel_rfl, yvs_size, hm])
  clear hk hm
  have HE := Lib.hid (And.intro el er)
  have HM := Lib.hid (And.intro ml (And.intro nl (And.intro mr nr)))
  have BL := Lib.hid bl
  have BR := Lib.hid br
  clear el er ml nl mr nr bl br
  go_enter Try.func9, Try.ntmps9
  go_wp2_with fail
  have hA0 := heap_alloc_new w (.cells (bothCells k m al lenl capl ar lenr capr) 67)
  have hB0 := (Below.refl w.heap.size w).alloc (Nat.le_refl _) (.cells (bothCells k m al lenl capl ar lenr capr) 67)
  refine (alive5_any _).mono ?_
  rintro e w1 ⟨rfl, hb1⟩
  have hA1 := (hb1.block w.heap.size (by simp)).trans hA0
  have HBW1 := Lib.hid (hB0.trans (hb1.mono hB0.size))
  have HLT1 := Lib.hid (show w.heap.size < w1.heap.size by have := hb1.size; simp at this; omega)
  have HS := Lib.hid (show ∀ W, Below w1.heap.size w1 W → W.rangeAt w.heap.size 0 (yvs k).toList ∧ W.rangeAt w.heap.size 32 (yvs m).toList ∧ W.cell? ⟨w.heap.size, 44, none⟩ = some (Value.slice al lenl capl) ∧ W.cell? ⟨w.heap.size, 45, none⟩ = some (Value.slice ar lenr capr) from fun W hW => both_at ((hW.block _ HLT1.out).trans hA1) HkL.out HmL.out)
  clear hA0 hB0 hb1 hA1
  go_upto_region 3 with (fail)
  go_cut [3, 4, 5, 6] from 7 (fun v3 v4 v5 v6 wc => ∃ X Y, v3 = .pointer (some ⟨X, 0, none⟩) ∧ v4 = .pointer (some ⟨Y, 0, none⟩) ∧ v5 = .slice al lenl capl ∧ v6 = .slice ar lenr capr ∧ ArrY wc X 22 k ∧ ArrY wc Y 29 m ∧ Below w1.heap.size w1 wc)
  case first =>
    try simp only [Act.put]
    refine wp_region_noPanic ?_
    refine wp_region_held_drew (S := fun W => W.rangeAt w.heap.size 0 (yvs k).toList ∧ W.rangeAt w.heap.size 32 (yvs m).toList ∧ W.cell? ⟨w.heap.size, 44, none⟩ = some (Value.slice al lenl capl) ∧ W.cell? ⟨w.heap.size, 45, none⟩ = some (Value.slice ar lenr capr)) (by kernel_rfl) (HS.out _ (Below.refl _ w1).drew) (fun hHeld => ?_)
    refine wpAnyH_take (i := 0) (oi := ⟨some 17, _, _, _, _, _⟩) (v := ?_) rfl (by kernel_rfl) (by decide +kernel) (by decide +kernel) (fun _ _ _ h => h) (Or.inl ⟨by rfl, ?_⟩) (by assumption) ?_
    rotate_left 1
    · (intro w' hSw; go_simp; try with_reducible rfl)
    try simp only [Act.put, List.setIfInBounds_toArray, List.set_cons_zero, List.set_cons_succ]
    refine wpAnyH_take (i := 1) (oi := ⟨some 18, _, _, _, _, _⟩) rfl (by kernel_rfl) (by decide +kernel) (by decide +kernel) (fun _ _ _ h => h) (yieldsIf_load_mid (by rfl) _ _ rfl (w.heap.size) (0) rfl (yvs k).toList _ (fun w' h => h.1) Try.underlying22 rfl Ik.out) (by assumption) ?_
    try simp only [Act.put, List.setIfInBounds_toArray, List.set_cons_zero, List.set_cons_succ, Array.toArray_toList]
    refine wpAnyH_take (i := 2) (oi := ⟨some 19, _, _, _, _, _⟩) (v := ?_) rfl (by kernel_rfl) (by decide +kernel) (by decide +kernel) (fun _ _ _ h => h) (Or.inl ⟨by rfl, ?_⟩) (by assumption) ?_
    rotate_left 1
    · (intro w' hSw; go_simp; try with_reducible rfl)
    try simp only [Act.put, List.setIfInBounds_toArray, List.set_cons_zero, List.set_cons_succ]
    refine wpAnyH_take (i := 3) (oi := ⟨some 20, _, _, _, _, _⟩) rfl (by kernel_rfl) (by decide +kernel) (by decide +kernel) (fun _ _ _ h => h) (yieldsIf_load_mid (by rfl) _ _ rfl (w.heap.size) (32) rfl (yvs m).toList _ (fun w' h => h.2.1) Try.underlying29 rfl Im.out) (by assumption) ?_
    try simp only [Act.put, List.setIfInBounds_toArray, List.set_cons_zero, List.set_cons_succ, Array.toArray_toList]
    refine wpAnyH_take (i := 4) (oi := ⟨some 21, _, _, _, _, _⟩) (v := ?_) rfl (by kernel_rfl) (by decide +kernel) (by decide +kernel) (fun _ _ _ h => h) (Or.inl ⟨by rfl, ?_⟩) (by assumption) ?_
    rotate_left 1
    · (intro w' hSw; go_simp; try with_reducible rfl)
    try simp only [Act.put, List.setIfInBounds_toArray, List.set_cons_zero, List.set_cons_succ]
    refine wpAnyH_take (i := 5) (oi := ⟨some 22, _, _, _, _, _⟩) (v := ?_) rfl (by kernel_rfl) (by decide +kernel) (by decide +kernel) (fun _ _ _ h => h) (Or.inl ⟨by rfl, ?_⟩) (by assumption) ?_
    rotate_left 1
    · (intro w' hSw; have hcell := hSw.2.2.1; clear hSw; go_simp; try with_reducible rfl)
    try simp only [Act.put, List.setIfInBounds_toArray, List.set_cons_zero, List.set_cons_succ]
    refine wpAnyH_take (i := 6) (oi := ⟨some 23, _, _, _, _, _⟩) (v := ?_) rfl (by kernel_rfl) (by decide +kernel) (by decide +kernel) (fun _ _ _ h => h) (Or.inl ⟨by rfl, ?_⟩) (by assumption) ?_
    rotate_left 1
    · (intro w' hSw; go_simp; try with_reducible rfl)
    try simp only [Act.put, List.setIfInBounds_toArray, List.set_cons_zero, List.set_cons_succ]
    refine wpAnyH_take (i := 7) (oi := ⟨some 24, _, _, _, _, _⟩) (v := ?_) rfl (by kernel_rfl) (by decide +kernel) (by decide +kernel) (fun _ _ _ h => h) (Or.inl ⟨by rfl, ?_⟩) (by assumption) ?_
    rotate_left 1
    · (intro w' hSw; have hcell := hSw.2.2.2; clear hSw; go_simp; try with_reducible rfl)
    try simp only [Act.put, List.setIfInBounds_toArray, List.set_cons_zero, List.set_cons_succ]
    clear hHeld
    have HB0 := Lib.hid (Below.refl w1.heap.size w1).drew
    refine wpAnyH_ready (rs := [8, 9]) (by decide +kernel) (by simp) ?_
    refine AllReadyH.cons rfl (fun K hK => ?_) (AllReadyH.cons rfl (fun K hK => ?_) AllReadyH.nil)
    · go_simp
      have hal := HB0.out.alloc HB0.out.size (.cells (yvs (zeroY 32)) 22)
      have hxl := heap_alloc_new (w1.drew) (.cells (yvs (zeroY 32)) 22)
      have hst := (Below.refl (w1.drew).heap.size (w1.drew)).alloc (Nat.le_refl _) (.cells (yvs (zeroY 32)) 22)
      refine hK.out _ _ (HS.out _ hal) (fun hHeld => ?_)
      clear hK K hHeld
      try simp only [Act.put, List.setIfInBounds_toArray, List.set_cons_zero, List.set_cons_succ]
      refine (show ∀ wb1 : World, wb1 = (w1.drew).alloc (.cells (yvs (zeroY 32)) 22) → _ from ?_) _ rfl
      intro wb1 ew
      rw [← ew] at hal hxl hst
      have HB1 := Lib.hid hal
      have HX1 := Lib.hid (show ArrY wb1 (w1.drew).heap.size 22 (zeroY 32) from hxl)
      have HNX1 := Lib.hid HB0.out.size
      clear ew hal hxl hst
      refine wpAnyH_ready (rs := [9]) (by decide +kernel) (by simp) ?_
      refine AllReadyH.cons rfl (fun K hK => ?_) AllReadyH.nil
      go_simp
      have hal := HB1.out.alloc HB1.out.size (.cells (yvs (zeroY 12)) 29)
      have hxl := heap_alloc_new (wb1) (.cells (yvs (zeroY 12)) 29)
      have hst := (Below.refl (wb1).heap.size (wb1)).alloc (Nat.le_refl _) (.cells (yvs (zeroY 12)) 29)
      refine hK.out _ _ (HS.out _ hal) (fun hHeld => ?_)
      clear hK K hHeld
      try simp only [Act.put, List.setIfInBounds_toArray, List.set_cons_zero, List.set_cons_succ]
      refine (show ∀ wb2 : World, wb2 = (wb1).alloc (.cells (yvs (zeroY 12)) 29) → _ from ?_) _ rfl
      intro wb2 ew
      rw [← ew] at hal hxl hst
      have HX2 := Lib.hid (HX1.out.below hst (zlt HX1.out))
      have NEXY2 := Lib.hid (show (w1.drew).heap.size ≠ (wb1).heap.size from Nat.ne_of_lt (zlt HX1.out))
      have HB2 := Lib.hid hal
      have HY2 := Lib.hid (show ArrY wb2 (wb1).heap.size 29 (zeroY 12) from hxl)
      have HNY2 := Lib.hid HB1.out.size
      clear ew hal hxl hst
      refine wpAnyH_ready (rs := [10]) (by decide +kernel) (by simp) ?_
      refine AllReadyH.cons rfl (fun K hK => ?_) AllReadyH.nil
      rw [if_pos (by kernel_rfl)]
      refine wp_store_row (o := ⟨none, .store _ (.tmp 3) _, _, _, _, _⟩) 22 _ _ rfl ((w1.drew).heap.size) (yvs k) rfl rfl 22 (yvs (zeroY 32)) (show (wb2).heap[(w1.drew).heap.size]? = _ from HX2.out) Ak.out Ek.out (yvs_one _) ?_
      refine hK.out _ _ (HS.out _ (ybelow_row HB2.out HNX1.out (yvs k))) (fun hHeld => ?_)
      clear hK K hHeld
      simp only [Act.put]
      refine wpAnyH_ready (rs := [11]) (by decide +kernel) (by simp) ?_
      refine AllReadyH.cons rfl (fun K hK => ?_) AllReadyH.nil
      rw [if_pos (by kernel_rfl)]
      refine wp_store_row (o := ⟨none, .store _ (.tmp 4) _, _, _, _, _⟩) 29 _ _ rfl ((wb1).heap.size) (yvs m) rfl rfl 29 (yvs (zeroY 12)) (show (((wb2).setRow ((w1.drew).heap.size) (yvs k))).heap[(wb1).heap.size]? = _ from ((setRow_other _ _ _ _ (Ne.symm NEXY2.out)).trans HY2.out)) Am.out Em.out (yvs_one _) ?_
      refine hK.out _ _ (HS.out _ (ybelow_row (ybelow_row HB2.out HNX1.out (yvs k)) HNY2.out (yvs m))) (fun hHeld => ?_)
      clear hK K hHeld
      simp only [Act.put]
      have hHeld := HS.out _ (ybelow_row (ybelow_row HB2.out HNX1.out (yvs k)) HNY2.out (yvs m))
      refine wpAnyH_take (i := 12) (oi := ⟨some 5, _, _, _, _, _⟩) (v := ?_) rfl (by kernel_rfl) (by decide +kernel) (by decide +kernel) (fun _ _ _ h => h) (Or.inl ⟨by rfl, ?_⟩) (by assumption) ?_
      rotate_left 1
      · (intro w' hSw; go_simp; try with_reducible rfl)
      try simp only [Act.put, List.setIfInBounds_toArray, List.set_cons_zero, List.set_cons_succ]
      refine wpAnyH_take (i := 13) (oi := ⟨some 6, _, _, _, _, _⟩) (v := ?_) rfl (by kernel_rfl) (by decide +kernel) (by decide +kernel) (fun _ _ _ h => h) (Or.inl ⟨by rfl, ?_⟩) (by assumption) ?_
      rotate_left 1
      · (intro w' hSw; go_simp; try with_reducible rfl)
      try simp only [Act.put, List.setIfInBounds_toArray, List.set_cons_zero, List.set_cons_succ]
      clear hHeld
      refine wpAnyH_done (by decide +kernel) ?_ _
      refine NoPanic.normal ?_
      go_wp2_with fail
      go_meet
      exact ⟨(w1.drew).heap.size, (wb1).heap.size, rfl, rfl, rfl, rfl, ((setRow_other _ _ _ _ NEXY2.out).trans (setRow_heap _ _ _ (yvs k) _ _ HX2.out)), (setRow_heap _ _ _ (yvs m) _ _ ((setRow_other _ _ _ _ (Ne.symm NEXY2.out)).trans HY2.out)), (ybelow_row (ybelow_row HB2.out HNX1.out (yvs k)) HNY2.out (yvs m))⟩
    · go_simp
      have hal := HB0.out.alloc HB0.out.size (.cells (yvs (zeroY 12)) 29)
      have hxl := heap_alloc_new (w1.drew) (.cells (yvs (zeroY 12)) 29)
      have hst := (Below.refl (w1.drew).heap.size (w1.drew)).alloc (Nat.le_refl _) (.cells (yvs (zeroY 12)) 29)
      refine hK.out _ _ (HS.out _ hal) (fun hHeld => ?_)
      clear hK K hHeld
      try simp only [Act.put, List.setIfInBounds_toArray, List.set_cons_zero, List.set_cons_succ]
      refine (show ∀ wb5 : World, wb5 = (w1.drew).alloc (.cells (yvs (zeroY 12)) 29) → _ from ?_) _ rfl
      intro wb5 ew
      rw [← ew] at hal hxl hst
      have HB5 := Lib.hid hal
      have HY5 := Lib.hid (show ArrY wb5 (w1.drew).heap.size 29 (zeroY 12) from hxl)
      have HNY5 := Lib.hid HB0.out.size
      clear ew hal hxl hst
      refine wpAnyH_ready (rs := [8]) (by decide +kernel) (by simp) ?_
      refine AllReadyH.cons rfl (fun K hK => ?_) AllReadyH.nil
      go_simp
      have hal := HB5.out.alloc HB5.out.size (.cells (yvs (zeroY 32)) 22)
      have hxl := heap_alloc_new (wb5) (.cells (yvs (zeroY 32)) 22)
      have hst := (Below.refl (wb5).heap.size (wb5)).alloc (Nat.le_refl _) (.cells (yvs (zeroY 32)) 22)
      refine hK.out _ _ (HS.out _ hal) (fun hHeld => ?_)
      clear hK K hHeld
      try simp only [Act.put, List.setIfInBounds_toArray, List.set_cons_zero, List.set_cons_succ]
      refine (show ∀ wb6 : World, wb6 = (wb5).alloc (.cells (yvs (zeroY 32)) 22) → _ from ?_) _ rfl
      intro wb6 ew
      rw [← ew] at hal hxl hst
      have HY6 := Lib.hid (HY5.out.below hst (zlt HY5.out))
      have NEYX6 := Lib.hid (show (w1.drew).heap.size ≠ (wb5).heap.size from Nat.ne_of_lt (zlt HY5.out))
      have HB6 := Lib.hid hal
      have HX6 := Lib.hid (show ArrY wb6 (wb5).heap.size 22 (zeroY 32) from hxl)
      have HNX6 := Lib.hid HB5.out.size
      clear ew hal hxl hst
      refine wpAnyH_ready (rs := [10]) (by decide +kernel) (by simp) ?_
      refine AllReadyH.cons rfl (fun K hK => ?_) AllReadyH.nil
      rw [if_pos (by kernel_rfl)]
      refine wp_store_row (o := ⟨none, .store _ (.tmp 3) _, _, _, _, _⟩) 22 _ _ rfl ((wb5).heap.size) (yvs k) rfl rfl 22 (yvs (zeroY 32)) (show (wb6).heap[(wb5).heap.size]? = _ from HX6.out) Ak.out Ek.out (yvs_one _) ?_
      refine hK.out _ _ (HS.out _ (ybelow_row HB6.out HNX6.out (yvs k))) (fun hHeld => ?_)
      clear hK K hHeld
      simp only [Act.put]
      refine wpAnyH_ready (rs := [11]) (by decide +kernel) (by simp) ?_
      refine AllReadyH.cons rfl (fun K hK => ?_) AllReadyH.nil
      rw [if_pos (by kernel_rfl)]
      refine wp_store_row (o := ⟨none, .store _ (.tmp 4) _, _, _, _, _⟩) 29 _ _ rfl ((w1.drew).heap.size) (yvs m) rfl rfl 29 (yvs (zeroY 12)) (show (((wb6).setRow ((wb5).heap.size) (yvs k))).heap[(w1.drew).heap.size]? = _ from ((setRow_other _ _ _ _ NEYX6.out).trans HY6.out)) Am.out Em.out (yvs_one _) ?_
      refine hK.out _ _ (HS.out _ (ybelow_row (ybelow_row HB6.out HNX6.out (yvs k)) HNY5.out (yvs m))) (fun hHeld => ?_)
      clear hK K hHeld
      simp only [Act.put]
      have hHeld := HS.out _ (ybelow_row (ybelow_row HB6.out HNX6.out (yvs k)) HNY5.out (yvs m))
      refine wpAnyH_take (i := 12) (oi := ⟨some 5, _, _, _, _, _⟩) (v := ?_) rfl (by kernel_rfl) (by decide +kernel) (by decide +kernel) (fun _ _ _ h => h) (Or.inl ⟨by rfl, ?_⟩) (by assumption) ?_
      rotate_left 1
      · (intro w' hSw; go_simp; try with_reducible rfl)
      try simp only [Act.put, List.setIfInBounds_toArray, List.set_cons_zero, List.set_cons_succ]
      refine wpAnyH_take (i := 13) (oi := ⟨some 6, _, _, _, _, _⟩) (v := ?_) rfl (by kernel_rfl) (by decide +kernel) (by decide +kernel) (fun _ _ _ h => h) (Or.inl ⟨by rfl, ?_⟩) (by assumption) ?_
      rotate_left 1
      · (intro w' hSw; go_simp; try with_reducible rfl)
      try simp only [Act.put, List.setIfInBounds_toArray, List.set_cons_zero, List.set_cons_succ]
      clear hHeld
      refine wpAnyH_done (by decide +kernel) ?_ _
      refine NoPanic.normal ?_
      go_wp2_with fail
      go_meet
      exact ⟨(wb5).heap.size, (w1.drew).heap.size, rfl, rfl, rfl, rfl, ((setRow_other _ _ _ _ (Ne.symm NEYX6.out)).trans (setRow_heap _ _ _ (yvs k) _ _ HX6.out)), (setRow_heap _ _ _ (yvs m) _ _ ((setRow_other _ _ _ _ NEYX6.out).trans HY6.out)), (ybelow_row (ybelow_row HB6.out HNX6.out (yvs k)) HNY5.out (yvs m))⟩
  case rest =>
    obtain ⟨X, Y, rfl, rfl, rfl, rfl, hX, hY, hbc⟩ := hcut
    have H0 := Lib.hid (show CW w wc X Y k m from ⟨hX, hY, HBW1.out.trans (hbc.mono HBW1.out.size)⟩)
    have BL0 := Lib.hid (BL.out.kept H0.out.bel)
    have BR0 := Lib.hid (BR.out.kept H0.out.bel)
    clear hX hY hbc HS HBW1 HLT1 BL BR
    by_cases h2 : 1000 < lenl
    · have h2I : (1000 : Int) < (lenl : Int) := by omega
      clear h2
      go_wp2_with fail
      go_ret
      exact ⟨rfl, H0.out.bel⟩
    have h2I : (lenl : Int) ≤ 1000 := by omega
    by_cases h3 : 1000 < lenr
    · have h3I : (1000 : Int) < (lenr : Int) := by omega
      clear h3 h2
      go_wp2_with fail
      go_ret
      exact ⟨rfl, H0.out.bel⟩
    have h3I : (lenr : Int) ≤ 1000 := by omega
    have H2 := Lib.hid (And.intro h2 h3)
    obtain ⟨q, hq⟩ : ∃ q : Nat, min lenl lenr = q := ⟨_, rfl⟩
    have HQ := Lib.hid (show q ≤ lenl ∧ q ≤ lenr ∧ q ≤ 1000 from ⟨by omega, by omega, by omega⟩)
    have HMIN := Lib.hid hq
    clear h2 h3 hq
    go_upto_region 6 with fail
    go_cut [7] from 8 (fun v7 wx => v7 = .int .i64 (q : Int) ∧ Below wc.heap.size wc wx)
    case first =>
      rcases Nat.lt_or_ge lenr lenl with h | h
      · have hI : (lenr : Int) < (lenl : Int) := by omega
        have HI := Lib.hid (show q = lenr by have := HMIN.out; omega)
        clear h
        go_wp2_with fail
        go_meet
        case rel => exact ⟨by rw [HI.out], Below.refl _ _⟩
      · have hI : (lenl : Int) ≤ (lenr : Int) := by omega
        have HI := Lib.hid (show q = lenl by have := HMIN.out; omega)
        clear h
        go_wp2_with fail
        go_meet
        case rel => exact ⟨by rw [HI.out], Below.refl _ _⟩
    case rest =>
      obtain ⟨rfl, hbx⟩ := hcut
      have H6 := Lib.hid (H0.out.below hbx)
      have BL6 := Lib.hid (BL0.out.kept hbx)
      have BR6 := Lib.hid (BR0.out.kept hbx)
      clear hbx H0 BL0 BR0
      have hmk := make_bytes q (by have := HQ.out; omega)
      go_upto_region 8 with fail
      clear hmk
      have hb7 := (Below.refl wc.heap.size wc).alloc (Nat.le_refl _) (.cells (yvs (zeroY q)) 5)
      have hA7 := heap_alloc_new wc (.cells (yvs (zeroY q)) 5)
      generalize hW7 : World.alloc wc _ = w7 at *
      have H7 := Lib.hid (H6.out.below hb7)
      have BL7 := Lib.hid (BL6.out.kept hb7)
      have BR7 := Lib.hid (BR6.out.kept hb7)
      have HA7 := Lib.hid (show ArrY w7 wc.heap.size 5 (zeroY q) from hA7)
      have HX7 := Lib.hid (show X < wc.heap.size ∧ Y < wc.heap.size from ⟨zlt H6.out.key, zlt H6.out.non⟩)
      have HB7 := Lib.hid (show Below wc.heap.size wc w7 from hb7)
      clear hW7 hb7 hA7
      generalize hP : wc.heap.size = P at *
      have qI : (q : Int) ≤ 1000 := by have := HQ.out; omega
      go_wp2_with fail
      go_loopw [42] (fun v42 wr => ∃ i : Nat, i ≤ q ∧ v42 = .int .i64 (i : Nat) ∧ ArrY wr P 5 (setF id (fun i => l.getD i 0 ^^^ r.getD i 0) i (zeroY q)) ∧ Below P w7 wr) (fun v _ => q - (intOf v).toNat)
      case atStart => exact ⟨0, by omega, rfl, HA7.out, Below.refl _ _⟩
      case round =>
        obtain ⟨i, hi, rfl, hA, hb⟩ := hrel
        by_cases hlt : i < q
        · obtain ⟨bl, ol, rfl, ll, cl⟩ := BL6.out.cellY HE.out.1 (show i < lenl by have := HQ.out; omega)
          obtain ⟨br, or, rfl, lr, cr⟩ := BR6.out.cellY HE.out.2 (show i < lenr by have := HQ.out; omega)
          have hb2 := HB7.out.trans hb
          rw [hP] at ll lr
          have cl2 : wr.cell? ⟨bl, ol + i, none⟩ = some (.int .u8 (yv (l.getD i 0))) := by rw [hb2.cell (p := ⟨bl, ol + i, none⟩) ll]; exact cl
          have cr2 : wr.cell? ⟨br, or + i, none⟩ = some (.int .u8 (yv (r.getD i 0))) := by rw [hb2.cell (p := ⟨br, or + i, none⟩) lr]; exact cr
          have ci := hA.cell (k := i) (by rw [setF_length]; simpa [zeroY] using hlt)
          have fi := hA.free i
          have hx := yv_xor (l.getD i 0) (r.getD i 0)
          have HST := Lib.hid (show setF id (fun i => l.getD i 0 ^^^ r.getD i 0) (i + 1) (zeroY q) = (setF id (fun i => l.getD i 0 ^^^ r.getD i 0) i (zeroY q)).set i (l.getD i 0 ^^^ r.getD i 0) from rfl)
          generalize hM2 : setF id (fun i => l.getD i 0 ^^^ r.getD i 0) (i + 1) (zeroY q) = M2 at *
          have HM2 := Lib.hid hM2
          clear hM2
          generalize setF id (fun i => l.getD i 0 ^^^ r.getD i 0) i (zeroY q) = M at *
          generalize M.getD i 0 = old at *
          generalize l.getD i 0 = x at *
          generalize r.getD i 0 = y at *
          have HA := Lib.hid hA
          have HB := Lib.hid hb
          have HLT := Lib.hid hlt
          have iI : (i : Int) < (q : Int) := by omega
          have i0 : (0 : Int) ≤ (i : Int) := by omega
          have iL : (i : Int) < (lenl : Int) := by have := HQ.out; omega
          have iR : (i : Int) < (lenr : Int) := by have := HQ.out; omega
          clear hA hb hi hlt cl cr ll lr hb2
          go_wp2_with fail
          go_still_tail 12, (by kernel_rfl)
          go_wp2_with fail
          go_roundw
          case rel => exact ⟨i + 1, by have := HLT.out; omega, by go_num, by rw [HM2.out, HST.out]; exact (show ArrY wr.drew P 5 M from HA.out).set i _, (HB.out.drew).setCell (p := ⟨P, i, none⟩) (Nat.le_refl _) _⟩
          case measure => simp [intOf]; omega
        · obtain rfl : q = i := by omega
          rw [sums_full l r q (by rw [HE.out.1]; exact HQ.out.1) (by rw [HE.out.2]; exact HQ.out.2.1)] at hA
          have hsz : w.heap.size ≤ P := by rw [← hP]; exact H6.out.bel.size
          have H8 := Lib.hid (show CW w wr X Y k m from ⟨H7.out.key.below hb HX7.out.1, H7.out.non.below hb HX7.out.2, H7.out.bel.trans (hb.mono hsz)⟩)
          have BL8 := Lib.hid (BL6.out.kept (show Below wc.heap.size wc wr by rw [hP]; exact HB7.out.trans hb))
          have BR8 := Lib.hid (BR6.out.kept (show Below wc.heap.size wc wr by rw [hP]; exact HB7.out.trans hb))
          have HA8 := Lib.hid hA
          have HP := Lib.hid hP
          clear hA hb hsz hi hlt H6 H7 BL6 BR6 BL7 BR7 HA7 HX7 HB7 hP
          obtain ⟨S, hS⟩ : ∃ y, strL (keysL k) m 0 q = y := ⟨_, rfl⟩
          have hSl : S.length = q := by rw [← hS, strL_length]
          obtain ⟨LQ, hLQ⟩ : ∃ y, l.take q = y := ⟨_, rfl⟩
          obtain ⟨RQ, hRQ⟩ : ∃ y, r.take q = y := ⟨_, rfl⟩
          have hlq : LQ.length = q := by rw [← hLQ, List.length_take, HE.out.1]; have := HQ.out; omega
          have hrq : RQ.length = q := by rw [← hRQ, List.length_take, HE.out.2]; have := HQ.out; omega
          obtain ⟨a10, hsl, B10⟩ := slice_to wr al lenl capl q l BL8.out HE.out.1 HQ.out.1 HM.out.1
          rw [hLQ] at B10
          have HC13 := Lib.hid (show ∀ W, Below wr.heap.size wr W → Calls Try.prog 18 #[.agg (yvs k), .agg (yvs m), .slice a10 q capl] W fun e w' => e = .returned (.tuple #[.slice (some ⟨W.heap.size + 1 + 1 + 1 + 1, 0, none⟩) q q, .int .i64 0]) ∧ ArrY w' (W.heap.size + 1 + 1 + 1 + 1) 5 (sumB LQ S) ∧ Below W.heap.size W w' from fun W hW => by
            have h := crypt_ok k m LQ a10 q capl W (B10.kept hW) hlq (by have := HQ.out; omega) HkL.out HmL.out
            rw [hS] at h
            exact h)
          rw [hLQ, hRQ] at HA8
          have hys : (sumB LQ RQ).length = q := sumB_length _ _ _ hlq hrq
          have HC14 := Lib.hid (show ∀ W, ArrY W P 5 (sumB LQ RQ) → Calls Try.prog 18 #[.agg (yvs k), .agg (yvs m), .slice (some ⟨P, 0, none⟩) q q] W fun e w' => e = .returned (.tuple #[.slice (some ⟨W.heap.size + 1 + 1 + 1 + 1, 0, none⟩) q q, .int .i64 0]) ∧ ArrY w' (W.heap.size + 1 + 1 + 1 + 1) 5 (sumB (sumB LQ RQ) S) ∧ Below W.heap.size W w' from fun W hA => by
            have h := crypt_ok k m (sumB LQ RQ) (some ⟨P, 0, none⟩) q q W (BS.of_arr0 hA hys) hys (by have := HQ.out; omega) HkL.out HmL.out
            rw [hS] at h
            exact h)
          have HFF := Lib.hid (show (sumB LQ S).length = q ∧ (sumB (sumB LQ RQ) S).length = q ∧ ∀ j, j < q → (sumB (sumB LQ RQ) S).getD j 0 = (sumB LQ S).getD j 0 ^^^ r.getD j 0 from ⟨sumB_length _ _ _ hlq hSl, sumB_length _ _ _ hys hSl, fun j hj => by
            rw [sum_at _ _ q j hys hSl hj, sum_at _ _ q j hlq hrq hj, sum_at _ _ q j hlq hSl hj, ← hRQ, take_at r q j hj, BitVec.xor_assoc, BitVec.xor_assoc, BitVec.xor_comm (r.getD j 0)]⟩)
          generalize sumB LQ S = XA at *
          generalize sumB (sumB LQ RQ) S = YA at *
          generalize sumB LQ RQ = SA at *
          clear hS hSl hLQ hRQ hlq hrq hys B10
          have HSV := Lib.hid (show ∀ W, Below wr.heap.size wr W → W.rangeAt X 0 (yvs k).toList ∧ W.rangeAt Y 0 (yvs m).toList from fun W hW => ⟨(H8.out.below hW).key.all, (H8.out.below hW).non.all⟩)
          go_upto_region 13 with fail
          try simp only [Act.put]
          refine wp_region_noPanic ?_
          refine wp_region_held_drew (S := fun W => W.rangeAt X 0 (yvs k).toList ∧ W.rangeAt Y 0 (yvs m).toList) (by kernel_rfl) (HSV.out _ (Below.refl _ wr).drew) (fun hHeld => ?_)
          refine wpAnyH_take (i := 0) (oi := ⟨some 59, _, _, _, _, _⟩) rfl (by kernel_rfl) (by decide +kernel) (by decide +kernel) (fun _ _ _ h => h) (yieldsIf_load_mid (by rfl) _ _ rfl (X) (0) rfl (yvs k).toList _ (fun w' h => h.1) Try.underlying22 rfl Ik.out) (by assumption) ?_
          try simp only [Act.put, List.setIfInBounds_toArray, List.set_cons_zero, List.set_cons_succ, Array.toArray_toList]
          refine wpAnyH_take (i := 1) (oi := ⟨some 60, _, _, _, _, _⟩) rfl (by kernel_rfl) (by decide +kernel) (by decide +kernel) (fun _ _ _ h => h) (yieldsIf_load_mid (by rfl) _ _ rfl (Y) (0) rfl (yvs m).toList _ (fun w' h => h.2) Try.underlying29 rfl Im.out) (by assumption) ?_
          try simp only [Act.put, List.setIfInBounds_toArray, List.set_cons_zero, List.set_cons_succ, Array.toArray_toList]
          refine wpAnyH_take (i := 2) (oi := ⟨some 61, _, _, _, _, _⟩) (v := ?_) rfl (by kernel_rfl) (by decide +kernel) (by decide +kernel) (fun _ _ _ h => h) (Or.inl ⟨by rfl, ?_⟩) (by assumption) ?_
          rotate_left 1
          · (intro w' hSw; go_simp; try with_reducible rfl)
          try simp only [Act.put, List.setIfInBounds_toArray, List.set_cons_zero, List.set_cons_succ]
          refine wpAnyH_take (i := 3) (oi := ⟨some 62, _, _, _, _, _⟩) (v := ?_) rfl (by kernel_rfl) (by decide +kernel) (by decide +kernel) (fun _ _ _ h => h) (Or.inl ⟨by rfl, ?_⟩) (by assumption) ?_
          rotate_left 1
          · (intro w' hSw; go_simp; try with_reducible rfl)
          try simp only [Act.put, List.setIfInBounds_toArray, List.set_cons_zero, List.set_cons_succ]
          refine wpAnyH_take (i := 4) (oi := ⟨some 63, _, _, _, _, _⟩) (v := ?_) rfl (by kernel_rfl) (by decide +kernel) (by decide +kernel) (fun _ _ _ h => h) (Or.inl ⟨by rfl, ?_⟩) (by assumption) ?_
          rotate_left 1
          · (intro w' hSw; go_simp; try with_reducible rfl)
          try simp only [Act.put, List.setIfInBounds_toArray, List.set_cons_zero, List.set_cons_succ]
          clear hHeld hsl
          refine wpAnyH_ready (rs := [5]) (by decide +kernel) (by simp) ?_
          refine AllReadyH.cons rfl (fun K hK => ?_) AllReadyH.nil
          go_simp
          go_at_call 18
          refine (HC13.out _ (Below.refl _ wr).drew).mono ?_
          rintro e w10 ⟨rfl, hA10, hb⟩
          have HB10 := Lib.hid ((Below.refl wr.heap.size wr).drew.trans (hb.mono (Below.refl wr.heap.size wr).drew.size))
          generalize wr.drew.heap.size + 1 + 1 + 1 + 1 = P10 at *
          have HA10 := Lib.hid hA10
          clear hA10 hb
          go_wp2_with fail
          refine hK.out _ _ (HSV.out _ HB10.out) (fun hHeld => ?_)
          clear hK K
          try simp only [Act.put, List.setIfInBounds_toArray, List.set_cons_zero, List.set_cons_succ]
          refine wpAnyH_take (i := 6) (oi := ⟨some 58, _, _, _, _, _⟩) (v := ?_) rfl (by kernel_rfl) (by decide +kernel) (by decide +kernel) (fun _ _ _ h => h) (Or.inl ⟨by rfl, ?_⟩) (by assumption) ?_
          rotate_left 1
          · (intro w' hSw; go_simp; try with_reducible rfl)
          try simp only [Act.put, List.setIfInBounds_toArray, List.set_cons_zero, List.set_cons_succ]
          refine wpAnyH_take (i := 7) (oi := ⟨some 65, _, _, _, _, _⟩) (v := ?_) rfl (by kernel_rfl) (by decide +kernel) (by decide +kernel) (fun _ _ _ h => h) (Or.inl ⟨by rfl, ?_⟩) (by assumption) ?_
          rotate_left 1
          · (intro w' hSw; go_simp; try with_reducible rfl)
          try simp only [Act.put, List.setIfInBounds_toArray, List.set_cons_zero, List.set_cons_succ]
          refine wpAnyH_take (i := 8) (oi := ⟨some 66, _, _, _, _, _⟩) (v := ?_) rfl (by kernel_rfl) (by decide +kernel) (by decide +kernel) (fun _ _ _ h => h) (Or.inl ⟨by rfl, ?_⟩) (by assumption) ?_
          rotate_left 1
          · (intro w' hSw; go_simp; try with_reducible rfl)
          try simp only [Act.put, List.setIfInBounds_toArray, List.set_cons_zero, List.set_cons_succ]
          refine wpAnyH_take (i := 9) (oi := ⟨some 10, _, _, _, _, _⟩) (v := ?_) rfl (by kernel_rfl) (by decide +kernel) (by decide +kernel) (fun _ _ _ h => h) (Or.inl ⟨by rfl, ?_⟩) (by assumption) ?_
          rotate_left 1
          · (intro w' hSw; go_simp; try with_reducible rfl)
          try simp only [Act.put, List.setIfInBounds_toArray, List.set_cons_zero, List.set_cons_succ]
          refine wpAnyH_take (i := 10) (oi := ⟨some 11, _, _, _, _, _⟩) (v := ?_) rfl (by kernel_rfl) (by decide +kernel) (by decide +kernel) (fun _ _ _ h => h) (Or.inl ⟨by rfl, ?_⟩) (by assumption) ?_
          rotate_left 1
          · (intro w' hSw; go_simp; try with_reducible rfl)
          try simp only [Act.put, List.setIfInBounds_toArray, List.set_cons_zero, List.set_cons_succ]
          clear hHeld
          refine wpAnyH_done (by decide +kernel) ?_ _
          refine NoPanic.normal ?_
          go_upto_region 14 with fail
          have H10 := Lib.hid (H8.out.below HB10.out)
          have BR10 := Lib.hid (BR8.out.kept HB10.out)
          have HS10 := Lib.hid (HA8.out.below HB10.out (zlt HA8.out))
          clear H8 BL8 BR8 HA8 HB10 HC13 HSV
          have HK10 := Lib.hid (show w10.heap[X]? = some (.cells (yvs k) 22 (0, 0)) from H10.out.key)
          have HN10 := Lib.hid (show w10.heap[Y]? = some (.cells (yvs m) 29 (0, 0)) from H10.out.non)
          go_wp2_with (first
            | (with_reducible refine wpList_load_row (o := ⟨some 68, _, _, _, _, _⟩) rfl 22 _ rfl X rfl 22 (yvs k) (0, 0) _ HK10.out Try.underlying22 rfl Sk.out ?_)
            | (with_reducible refine wpList_load_row (o := ⟨some 69, _, _, _, _, _⟩) rfl 29 _ rfl Y rfl 29 (yvs m) (0, 0) _ HN10.out Try.underlying29 rfl Sm.out ?_))
          refine (HC14.out _ HS10.out).mono ?_
          rintro e w14 ⟨rfl, hA14, hb14⟩
          generalize w10.heap.size + 1 + 1 + 1 + 1 = P14 at *
          have H14 := Lib.hid (H10.out.below hb14)
          have BR14 := Lib.hid (BR10.out.kept hb14)
          have HX14 := Lib.hid (And.intro (HA10.out.below hb14 (zlt HA10.out)) hA14)
          clear hA14 hb14 H10 BR10 HA10 HS10 HC14 HK10 HN10
          go_wp2_with fail
          go_loopw [82] (fun v82 wx => ∃ j : Nat, j ≤ q ∧ v82 = .int .i64 (j : Nat) ∧ Below w14.heap.size w14 wx) (fun v _ => q - (intOf v).toNat)
          case atStart => exact ⟨0, by omega, rfl, Below.refl _ _⟩
          case round =>
            obtain ⟨j, hj, rfl, hb⟩ := hrel
            by_cases hlt : j < q
            · have cx := (HX14.out.1.below hb (zlt HX14.out.1)).cell (k := j) (by rw [HFF.out.1]; exact hlt)
              have cy := (HX14.out.2.below hb (zlt HX14.out.2)).cell (k := j) (by rw [HFF.out.2.1]; exact hlt)
              rw [HFF.out.2.2 j hlt] at cy
              obtain ⟨bb, ob, rfl, lb, cb⟩ := (BR14.out.kept hb).cellY HE.out.2 (show j < lenr by have := HQ.out; omega)
              have hx := yv_xor (XA.getD j 0) (r.getD j 0)
              have HB := Lib.hid hb
              have HLT := Lib.hid hlt
              have iI : (j : Int) < (q : Int) := by omega
              have i0 : (0 : Int) ≤ (j : Int) := by omega
              have iR : (j : Int) < (lenr : Int) := by have := HQ.out; omega
              generalize XA.getD j 0 = xa at *
              generalize r.getD j 0 = ya at *
              clear hb hj hlt lb
              go_wp2_with fail
              go_quiet (fail)
              go_wp2_with fail
              go_roundw
              case rel => exact ⟨j + 1, by have := HLT.out; omega, by go_num, ybelow_drewN HB.out _⟩
              case measure => simp [intOf]; omega
            · obtain rfl : q = j := by omega
              have HEND := Lib.hid (H14.out.below hb).bel
              clear hb hj hlt
              go_wp2_with fail
              go_ret
              exact ⟨by simp, HEND.out⟩
set_option maxRecDepth 100000 in
theorem lifted (os : Os) (started : os.Started) (H : Type) (enc : TypeId × Value → H) :
    ReturnsInHanded {} Try.checked os 9 .any (Rows.ctrSumsSpec.pre6 enc Try.prog Try.f9 Rows.ctrSumsRow.domain false) (Rows.ctrSumsSpec.post enc Try.prog Try.f9 false true false false) := by
  refine returnsInHanded_of_change_sized (C := Try.checked) own started (by kernel_rfl) Try.func9
    (ChangeSpec.witness6 (enc := enc) (C := Try.checked) false ⟨#[], #[.agg (bothCells (zeroY 32) (zeroY 12) none 0 0 none 0 0)], []⟩ 8 (by kernel_rfl) (by kernel_rfl) (by kernel_rfl) (by kernel_rfl)) ?_
  intro W base args ds gs before hval0 hW hcnd hsz0 _
  have hsz : (DataW.weightsEach Try.prog (Try.f9.params.toList ++ Rows.ctrSumsSpec.plain.varTypes Try.prog) (ds ++ gs)).all (· ≤ reachBytes) = true := hsz0
  clear hsz0
  have hval : ∀ (j : Nat) t v, Try.f9.params[j]? = some t → args[j]? = some v → Value.okWide Try.prog W .any base t v := hval0
  have hW' := hW
  obtain ⟨p, q, hA0, hV, rfl, hfz, hnd⟩ := hW
  have hA : DataW.TrodAll enc Try.prog W 0 (fun _ => true) true Try.f9.params.toList args.toList ds p := hA0
  rw [Try.params9] at hA hval hsz
  obtain ⟨v0, vs0, d0, ds0, p0, q0, hargs, rfl, rfl, h0, r0⟩ := trodAll_cons hA
  obtain ⟨rfl, rfl, rfl⟩ := trodAll_nil r0
  obtain rfl : args = #[v0] := by cases args; simp_all
  obtain ⟨rfl, rfl⟩ := trodVars_none hV
  have k0 := h0
  have lt0 : ∀ x ∈ p0, x.block < W.heap.size := by obtain ⟨m, hm⟩ := k0; exact DataW.trod_lt m _ _ _ hm
  obtain ⟨k, m, al, lenl, capl, l, ar, lenr, capr, r, rfl, hk, hm, el, bl, ml, nl, er, br, mr, nr⟩ := open_both (hval 0 67 v0 rfl rfl) h0 hsz
  clear hA0 hval0
  simp only [List.append_nil] at hW'
  refine (walk W k m al lenl capl l ar lenr capr r hk hm el bl ml nl er br mr nr).mono fun e W' ⟨he, bel⟩ => ?_
  subst he
  exact ⟨_, rfl, _, _, _, [], _, [], hW', trodAll_mk1 (shut_bool Try.underlying4 _), (trodAll_cons_mk (Below.trod laidOut (by kernel_rfl) (of_decide_eq_true (by kernel_rfl)) k0 bel lt0) trodAll_mk0), rfl, bel.frame _, fun h => by cases h⟩

theorem over : Rows.ctrSumsRow.holds Try.pinned (OpenSpec.ofChange Rows.ctrSumsSpec) :=
  OpenClaim.holds_of_wide 9 Try.f9 rfl rfl rfl rfl rfl rfl rfl ⟨rfl, rfl, rfl, rfl, rfl⟩ rfl rfl rfl rfl rfl (by kernel_rfl) Try.func9 (by kernel_rfl)
    (of_decide_eq_true (by kernel_rfl)) (by unfold Func.isWrapper; first | (rw [if_pos (by decide +kernel)]; kernel_rfl) | (rw [if_neg (by decide +kernel)]; exact ⟨rfl, rfl⟩))
    (fun os started H enc _ => lifted os started H enc)

/-- The statement. -/
theorem proved : Rows.CtrSumsSaid := over
#print axioms proved
end Go.Proofs.Ytajfooefofafmaa.ctrSums
