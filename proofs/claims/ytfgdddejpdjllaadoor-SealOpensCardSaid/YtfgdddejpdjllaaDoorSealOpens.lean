/-
  'SealOpens' returns true at every input, and each argument reads behind the call as it read before. Conditions: the package-level variable that the row lists starts as the program's text lays it (the card ties that).
-/
import Derived.Test.YtfgdddejpdjllaaDoorLaid
import Derived.Test.YtfgdddejpdjllaaDoorCards
import Derived.Test.YtfgdddejpdjllaaDoorTie
import Derived.Test.YtfgdddejpdjllaaDoorEj
import Derived.Deep.CutRange
import Derived.Deep.DeepCutAuto
namespace Go.Proofs.YtfgdddejpdjllaaDoor.sealOpens
open Go.ChangeShapes Go.WideShapes Go.ChangeAt Go.RowKit
set_option linter.unusedVariables false


set_option maxRecDepth 100000 in
set_option maxHeartbeats 1600000 in
theorem walk (w : World) (k : List (BitVec 8)) (P : PtrV) (ba : Option Addr) (bc : Nat) (b : List Int) (o : Bool) (qf : k.length = 32 ∧ (b.length ≤ bc ∧ bc ≤ 140737488351232 ∧ BS w (.slice ba b.length bc) b)) (hK : KT w) :
    Calls Tryd.prog 5 #[.agg (opened12Cells k P ba bc b o).toArray] w fun e w' => e = .returned (.bool true) ∧ Below w.heap.size w w' := by
  obtain ⟨hk, hb1, hb2, hb3⟩ := qf
  have HLk := Lib.hid hk
  have HAL := Lib.hid (fun (W : World) (hb : Below w.heap.size w W) => alive12_any W (hK.below hb hK.pos))
  have HK := Lib.hid hK
  have hA0 := heap_alloc_new w (.cells (opened12Cells k P ba bc b o).toArray 52)
  have hB0 := (Below.refl w.heap.size w).alloc (Nat.le_refl _) (.cells (opened12Cells k P ba bc b o).toArray 52)
  have Ik := Lib.hid (info_rkeyL k hk)
  have Sk := Lib.hid (size_arr32 k hk)
  have Ek := Lib.hid (show (yvs (zeroY 32)).size = (yvs k).size by rw [yvs_size, yvs_size, hk]; rfl)
  have IP := Lib.hid (size_ptr P)
  have SP := Lib.hid (size_ptrA P)
  have EP := Lib.hid (show (ptrRow zeroPtr).toArray.size = (ptrRow P).toArray.size by simp [ptrRow_length])
  have HCL := Lib.hid (fun (W : World) (h : W.heap[w.heap.size]? = some (.cells (opened12Cells k P ba bc b o).toArray 52 (0, 0))) => show W.rangeAt w.heap.size 0 (yvs k).toList ∧ W.rangeAt w.heap.size 32 (ptrRow P) ∧ W.cell? ⟨w.heap.size, 66, none⟩ = some (.slice ba b.length bc) ∧ W.cell? ⟨w.heap.size, 67, none⟩ = some (.bool o) from opened12_at k P ba bc b o h hk)
  clear hK hk
  generalize hcl : (opened12Cells k P ba bc b o).toArray = CL at *
  clear hcl
  have hz32 := zero_arr32
  have hzp := zero_ptr
  go_enter Tryd.func5, Tryd.ntmps5
  go_wp2_with fail
  refine (HAL.out _ hB0).mono ?_
  rintro e w1 ⟨rfl, hb1⟩
  have hA1 := (hb1.block w.heap.size (lt_of_block hA0)).trans hA0
  have HBW1 := Lib.hid (hB0.trans (hb1.mono hB0.size))
  have HS := Lib.hid (show ∀ W, Below w1.heap.size w1 W → W.rangeAt w.heap.size 0 (yvs k).toList ∧ W.rangeAt w.heap.size 32 (ptrRow P) ∧ W.cell? ⟨w.heap.size, 66, none⟩ = some (.slice ba b.length bc) ∧ W.cell? ⟨w.heap.size, 67, none⟩ = some (.bool o) from fun W hW => HCL.out W ((hW.block _ (lt_of_block hA1)).trans hA1))
  clear hA0 hB0 hb1 hA1 HAL HCL
  go_upto_region 3 with (fail)
  go_cut [3, 4, 5, 6] from 7 (fun v3 v4 v5 v6 wc => ∃ X Q, v3 = .pointer (some ⟨X, 0, none⟩) ∧ v4 = .pointer (some ⟨Q, 0, none⟩) ∧ v5 = .slice ba b.length bc ∧ v6 = .bool o ∧ Below w1.heap.size w1 wc ∧ wc.heap[X]? = some (.cells (yvs k) 24 (0, 0)) ∧ wc.heap[Q]? = some (.cells (ptrRow P).toArray 41 (0, 0)) ∧ w1.heap.size ≤ X ∧ w1.heap.size ≤ Q ∧ X ≠ Q)
  case first =>
    try simp only [Act.put]
    refine wp_region_noPanic ?_
    refine wp_region_held_drew (S := fun W => W.rangeAt w.heap.size 0 (yvs k).toList ∧ W.rangeAt w.heap.size 32 (ptrRow P) ∧ W.cell? ⟨w.heap.size, 66, none⟩ = some (.slice ba b.length bc) ∧ W.cell? ⟨w.heap.size, 67, none⟩ = some (.bool o)) (by kernel_rfl) (HS.out _ (Below.refl _ w1).drew) (fun hHeld => ?_)
    refine wpAnyH_take (i := 0) (oi := ⟨some 13, _, _, _, _, _⟩) (v := ?_) rfl (by kernel_rfl) (by decide +kernel) (by decide +kernel) (fun _ _ _ h => h) (Or.inl ⟨by rfl, ?_⟩) (by assumption) ?_
    rotate_left 1
    · (intro w' hSw; go_simp; try with_reducible rfl)
    try simp only [Act.put, List.setIfInBounds_toArray, List.set_cons_zero, List.set_cons_succ]
    refine wpAnyH_take (i := 1) (oi := ⟨some 14, _, _, _, _, _⟩) rfl (by kernel_rfl) (by decide +kernel) (by decide +kernel) (fun _ _ _ h => h) (yieldsIf_load_mid (by rfl) _ _ rfl (w.heap.size) (0) rfl (yvs k).toList _ (fun w' h => h.1) Tryd.underlying24 rfl Ik.out) (by assumption) ?_
    try simp only [Act.put, List.setIfInBounds_toArray, List.set_cons_zero, List.set_cons_succ, Array.toArray_toList]
    refine wpAnyH_take (i := 2) (oi := ⟨some 15, _, _, _, _, _⟩) (v := ?_) rfl (by kernel_rfl) (by decide +kernel) (by decide +kernel) (fun _ _ _ h => h) (Or.inl ⟨by rfl, ?_⟩) (by assumption) ?_
    rotate_left 1
    · (intro w' hSw; go_simp; try with_reducible rfl)
    try simp only [Act.put, List.setIfInBounds_toArray, List.set_cons_zero, List.set_cons_succ]
    refine wpAnyH_take (i := 3) (oi := ⟨some 16, _, _, _, _, _⟩) rfl (by kernel_rfl) (by decide +kernel) (by decide +kernel) (fun _ _ _ h => h) (yieldsIf_load_mid (by rfl) _ _ rfl (w.heap.size) (32) rfl (ptrRow P) _ (fun w' h => h.2.1) Tryd.underlying41 rfl IP.out) (by assumption) ?_
    try simp only [Act.put, List.setIfInBounds_toArray, List.set_cons_zero, List.set_cons_succ]
    refine wpAnyH_take (i := 4) (oi := ⟨some 17, _, _, _, _, _⟩) (v := ?_) rfl (by kernel_rfl) (by decide +kernel) (by decide +kernel) (fun _ _ _ h => h) (Or.inl ⟨by rfl, ?_⟩) (by assumption) ?_
    rotate_left 1
    · (intro w' hSw; go_simp; try with_reducible rfl)
    try simp only [Act.put, List.setIfInBounds_toArray, List.set_cons_zero, List.set_cons_succ]
    refine wpAnyH_take (i := 5) (oi := ⟨some 18, _, _, _, _, _⟩) (v := ?_) rfl (by kernel_rfl) (by decide +kernel) (by decide +kernel) (fun _ _ _ h => h) (Or.inl ⟨by rfl, ?_⟩) (by assumption) ?_
    rotate_left 1
    · (intro w' hSw; have hcell := hSw.2.2.1; clear hSw; go_simp; try with_reducible rfl)
    try simp only [Act.put, List.setIfInBounds_toArray, List.set_cons_zero, List.set_cons_succ]
    refine wpAnyH_take (i := 6) (oi := ⟨some 19, _, _, _, _, _⟩) (v := ?_) rfl (by kernel_rfl) (by decide +kernel) (by decide +kernel) (fun _ _ _ h => h) (Or.inl ⟨by rfl, ?_⟩) (by assumption) ?_
    rotate_left 1
    · (intro w' hSw; go_simp; try with_reducible rfl)
    try simp only [Act.put, List.setIfInBounds_toArray, List.set_cons_zero, List.set_cons_succ]
    refine wpAnyH_take (i := 7) (oi := ⟨some 20, _, _, _, _, _⟩) (v := ?_) rfl (by kernel_rfl) (by decide +kernel) (by decide +kernel) (fun _ _ _ h => h) (Or.inl ⟨by rfl, ?_⟩) (by assumption) ?_
    rotate_left 1
    · (intro w' hSw; have hcell := hSw.2.2.2; clear hSw; go_simp; try with_reducible rfl)
    try simp only [Act.put, List.setIfInBounds_toArray, List.set_cons_zero, List.set_cons_succ]
    clear hHeld
    have HB0 := Lib.hid (Below.refl w1.heap.size w1).drew
    refine wpAnyH_ready (rs := [8, 9]) (by decide +kernel) (by simp) ?_
    refine AllReadyH.cons rfl (fun K hK => ?_) (AllReadyH.cons rfl (fun K hK => ?_) AllReadyH.nil)
    · go_simp
      have hal := HB0.out.alloc HB0.out.size (.cells (yvs (zeroY 32)) 24)
      have hxl := heap_alloc_new (w1.drew) (.cells (yvs (zeroY 32)) 24)
      have hst := (Below.refl (w1.drew).heap.size (w1.drew)).alloc (Nat.le_refl _) (.cells (yvs (zeroY 32)) 24)
      refine hK.out _ _ (HS.out _ hal) (fun hHeld => ?_)
      clear hK K hHeld
      try simp only [Act.put, List.setIfInBounds_toArray, List.set_cons_zero, List.set_cons_succ]
      refine (show ∀ wa1 : World, wa1 = (w1.drew).alloc (.cells (yvs (zeroY 32)) 24) → _ from ?_) _ rfl
      intro wa1 ew
      rw [← ew] at hal hxl hst
      have HF01 := Lib.hid (show wa1.heap[w1.heap.size]? = _ from hxl)
      have HG01 := Lib.hid (show w1.heap.size ≤ w1.heap.size from HB0.out.size)
      have HB1 := Lib.hid hal
      clear ew hal hxl hst
      refine wpAnyH_ready (rs := [9]) (by decide +kernel) (by simp) ?_
      refine AllReadyH.cons rfl (fun K hK => ?_) AllReadyH.nil
      go_simp
      have hal := HB1.out.alloc HB1.out.size (.cells (ptrRow zeroPtr).toArray 41)
      have hxl := heap_alloc_new (wa1) (.cells (ptrRow zeroPtr).toArray 41)
      have hst := (Below.refl (wa1).heap.size (wa1)).alloc (Nat.le_refl _) (.cells (ptrRow zeroPtr).toArray 41)
      refine hK.out _ _ (HS.out _ hal) (fun hHeld => ?_)
      clear hK K hHeld
      try simp only [Act.put, List.setIfInBounds_toArray, List.set_cons_zero, List.set_cons_succ]
      refine (show ∀ wa2 : World, wa2 = (wa1).alloc (.cells (ptrRow zeroPtr).toArray 41) → _ from ?_) _ rfl
      intro wa2 ew
      rw [← ew] at hal hxl hst
      have HF02 := Lib.hid ((hst.block _ (lt_of_block HF01.out)).trans HF01.out)
      have HE012 := Lib.hid (show w1.heap.size ≠ wa1.heap.size from Nat.ne_of_lt (lt_of_block HF01.out))
      have HF12 := Lib.hid (show wa2.heap[wa1.heap.size]? = _ from hxl)
      have HG12 := Lib.hid (show w1.heap.size ≤ wa1.heap.size from HB1.out.size)
      have HB2 := Lib.hid hal
      clear ew hal hxl hst
      refine wpAnyH_ready (rs := [10]) (by decide +kernel) (by simp) ?_
      refine AllReadyH.cons rfl (fun K hK => ?_) AllReadyH.nil
      rw [if_pos (by kernel_rfl)]
      refine wp_store_row (o := ⟨none, .store _ (.tmp 3) _, _, _, _, _⟩) 24 _ _ rfl (w1.heap.size) (yvs k) rfl rfl 24 (yvs (zeroY 32)) (show (wa2).heap[w1.heap.size]? = _ from HF02.out) Sk.out Ek.out (yvs_one _) ?_
      refine hK.out _ _ (HS.out _ (ybelow_row HB2.out HG01.out (yvs k))) (fun hHeld => ?_)
      clear hK K hHeld
      simp only [Act.put]
      refine wpAnyH_ready (rs := [11]) (by decide +kernel) (by simp) ?_
      refine AllReadyH.cons rfl (fun K hK => ?_) AllReadyH.nil
      rw [if_pos (by kernel_rfl)]
      refine wp_store_row (o := ⟨none, .store _ (.tmp 4) _, _, _, _, _⟩) 41 _ _ rfl (wa1.heap.size) (ptrRow P).toArray rfl rfl 41 (ptrRow zeroPtr).toArray (show (((wa2).setRow (w1.heap.size) (yvs k))).heap[wa1.heap.size]? = _ from ((setRow_other _ _ _ _ (Ne.symm HE012.out)).trans HF12.out)) SP.out EP.out (ptrRow_one _) ?_
      refine hK.out _ _ (HS.out _ (ybelow_row (ybelow_row HB2.out HG01.out (yvs k)) HG12.out (ptrRow P).toArray)) (fun hHeld => ?_)
      clear hK K hHeld
      simp only [Act.put]
      have hHeld := HS.out _ (ybelow_row (ybelow_row HB2.out HG01.out (yvs k)) HG12.out (ptrRow P).toArray)
      refine wpAnyH_take (i := 12) (oi := ⟨some 5, _, _, _, _, _⟩) (v := ?_) rfl (by kernel_rfl) (by decide +kernel) (by decide +kernel) (fun _ _ _ h => h) (Or.inl ⟨by rfl, ?_⟩) (by assumption) ?_
      rotate_left 1
      · (intro w' hSw; go_simp; try with_reducible rfl)
      try simp only [Act.put, List.setIfInBounds_toArray, List.set_cons_zero, List.set_cons_succ]
      refine wpAnyH_take (i := 13) (oi := ⟨some 6, _, _, _, _, _⟩) (v := ?_) rfl (by kernel_rfl) (by decide +kernel) (by decide +kernel) (fun _ _ _ h => h) (Or.inl ⟨by rfl, ?_⟩) (by assumption) ?_
      rotate_left 1
      · (intro w' hSw; go_simp; try with_reducible rfl)
      try simp only [Act.put, List.setIfInBounds_toArray, List.set_cons_zero, List.set_cons_succ]
      clear hHeld
      refine wpAnyH_done (by decide +kernel) ?_ _
      refine NoPanic.normal ?_
      go_wp2_with fail
      go_meet
      exact ⟨w1.heap.size, wa1.heap.size, rfl, rfl, rfl, rfl, (ybelow_row (ybelow_row HB2.out HG01.out (yvs k)) HG12.out (ptrRow P).toArray), ((setRow_other _ _ _ _ HE012.out).trans (setRow_heap _ _ _ (yvs k) _ _ HF02.out)), (setRow_heap _ _ _ (ptrRow P).toArray _ _ ((setRow_other _ _ _ _ (Ne.symm HE012.out)).trans HF12.out)), HG01.out, HG12.out, HE012.out⟩
    · go_simp
      have hal := HB0.out.alloc HB0.out.size (.cells (ptrRow zeroPtr).toArray 41)
      have hxl := heap_alloc_new (w1.drew) (.cells (ptrRow zeroPtr).toArray 41)
      have hst := (Below.refl (w1.drew).heap.size (w1.drew)).alloc (Nat.le_refl _) (.cells (ptrRow zeroPtr).toArray 41)
      refine hK.out _ _ (HS.out _ hal) (fun hHeld => ?_)
      clear hK K hHeld
      try simp only [Act.put, List.setIfInBounds_toArray, List.set_cons_zero, List.set_cons_succ]
      refine (show ∀ wa3 : World, wa3 = (w1.drew).alloc (.cells (ptrRow zeroPtr).toArray 41) → _ from ?_) _ rfl
      intro wa3 ew
      rw [← ew] at hal hxl hst
      have HF13 := Lib.hid (show wa3.heap[w1.heap.size]? = _ from hxl)
      have HG13 := Lib.hid (show w1.heap.size ≤ w1.heap.size from HB0.out.size)
      have HB3 := Lib.hid hal
      clear ew hal hxl hst
      refine wpAnyH_ready (rs := [8]) (by decide +kernel) (by simp) ?_
      refine AllReadyH.cons rfl (fun K hK => ?_) AllReadyH.nil
      go_simp
      have hal := HB3.out.alloc HB3.out.size (.cells (yvs (zeroY 32)) 24)
      have hxl := heap_alloc_new (wa3) (.cells (yvs (zeroY 32)) 24)
      have hst := (Below.refl (wa3).heap.size (wa3)).alloc (Nat.le_refl _) (.cells (yvs (zeroY 32)) 24)
      refine hK.out _ _ (HS.out _ hal) (fun hHeld => ?_)
      clear hK K hHeld
      try simp only [Act.put, List.setIfInBounds_toArray, List.set_cons_zero, List.set_cons_succ]
      refine (show ∀ wa4 : World, wa4 = (wa3).alloc (.cells (yvs (zeroY 32)) 24) → _ from ?_) _ rfl
      intro wa4 ew
      rw [← ew] at hal hxl hst
      have HF14 := Lib.hid ((hst.block _ (lt_of_block HF13.out)).trans HF13.out)
      have HE104 := Lib.hid (show w1.heap.size ≠ wa3.heap.size from Nat.ne_of_lt (lt_of_block HF13.out))
      have HF04 := Lib.hid (show wa4.heap[wa3.heap.size]? = _ from hxl)
      have HG04 := Lib.hid (show w1.heap.size ≤ wa3.heap.size from HB3.out.size)
      have HB4 := Lib.hid hal
      clear ew hal hxl hst
      refine wpAnyH_ready (rs := [10]) (by decide +kernel) (by simp) ?_
      refine AllReadyH.cons rfl (fun K hK => ?_) AllReadyH.nil
      rw [if_pos (by kernel_rfl)]
      refine wp_store_row (o := ⟨none, .store _ (.tmp 3) _, _, _, _, _⟩) 24 _ _ rfl (wa3.heap.size) (yvs k) rfl rfl 24 (yvs (zeroY 32)) (show (wa4).heap[wa3.heap.size]? = _ from HF04.out) Sk.out Ek.out (yvs_one _) ?_
      refine hK.out _ _ (HS.out _ (ybelow_row HB4.out HG04.out (yvs k))) (fun hHeld => ?_)
      clear hK K hHeld
      simp only [Act.put]
      refine wpAnyH_ready (rs := [11]) (by decide +kernel) (by simp) ?_
      refine AllReadyH.cons rfl (fun K hK => ?_) AllReadyH.nil
      rw [if_pos (by kernel_rfl)]
      refine wp_store_row (o := ⟨none, .store _ (.tmp 4) _, _, _, _, _⟩) 41 _ _ rfl (w1.heap.size) (ptrRow P).toArray rfl rfl 41 (ptrRow zeroPtr).toArray (show (((wa4).setRow (wa3.heap.size) (yvs k))).heap[w1.heap.size]? = _ from ((setRow_other _ _ _ _ HE104.out).trans HF14.out)) SP.out EP.out (ptrRow_one _) ?_
      refine hK.out _ _ (HS.out _ (ybelow_row (ybelow_row HB4.out HG04.out (yvs k)) HG13.out (ptrRow P).toArray)) (fun hHeld => ?_)
      clear hK K hHeld
      simp only [Act.put]
      have hHeld := HS.out _ (ybelow_row (ybelow_row HB4.out HG04.out (yvs k)) HG13.out (ptrRow P).toArray)
      refine wpAnyH_take (i := 12) (oi := ⟨some 5, _, _, _, _, _⟩) (v := ?_) rfl (by kernel_rfl) (by decide +kernel) (by decide +kernel) (fun _ _ _ h => h) (Or.inl ⟨by rfl, ?_⟩) (by assumption) ?_
      rotate_left 1
      · (intro w' hSw; go_simp; try with_reducible rfl)
      try simp only [Act.put, List.setIfInBounds_toArray, List.set_cons_zero, List.set_cons_succ]
      refine wpAnyH_take (i := 13) (oi := ⟨some 6, _, _, _, _, _⟩) (v := ?_) rfl (by kernel_rfl) (by decide +kernel) (by decide +kernel) (fun _ _ _ h => h) (Or.inl ⟨by rfl, ?_⟩) (by assumption) ?_
      rotate_left 1
      · (intro w' hSw; go_simp; try with_reducible rfl)
      try simp only [Act.put, List.setIfInBounds_toArray, List.set_cons_zero, List.set_cons_succ]
      clear hHeld
      refine wpAnyH_done (by decide +kernel) ?_ _
      refine NoPanic.normal ?_
      go_wp2_with fail
      go_meet
      exact ⟨wa3.heap.size, w1.heap.size, rfl, rfl, rfl, rfl, (ybelow_row (ybelow_row HB4.out HG04.out (yvs k)) HG13.out (ptrRow P).toArray), ((setRow_other _ _ _ _ (Ne.symm HE104.out)).trans (setRow_heap _ _ _ (yvs k) _ _ HF04.out)), (setRow_heap _ _ _ (ptrRow P).toArray _ _ ((setRow_other _ _ _ _ HE104.out).trans HF14.out)), HG04.out, HG13.out, (Ne.symm HE104.out)⟩
  case rest =>
    obtain ⟨X, Q, rfl, rfl, rfl, rfl, hbc, hX, hQ, hgX, hgQ, hnXQ⟩ := hcut
    have HBC := Lib.hid (HBW1.out.trans (hbc.mono HBW1.out.size))
    have HXX := Lib.hid hX
    have HXQ := Lib.hid hQ
    have HGX := Lib.hid (Nat.le_trans HBW1.out.size hgX)
    have HGQ := Lib.hid (Nat.le_trans HBW1.out.size hgQ)
    have HNXQ := Lib.hid hnXQ
    clear hgX hgQ hnXQ
    clear hbc HS HBW1 hz32 hX hQ hzp
    have HBT := Lib.hid ((bts_of hb3 rfl hb1 hb2).below HBC.out)
    have HI0 := Lib.hid (bts_of hb3 rfl hb1 hb2)
    have HBY := Lib.hid hb3.byt
    have HTY := Lib.hid (toY_yv b hb3.byt)
    generalize toY b = Y at *
    generalize hn : b.length = n at *
    have HNB := Lib.hid hn
    have nI : (n : Int) ≤ 140737488351232 := by omega
    by_cases hbig : 600 < n
    · have hbI : (600 : Int) < (n : Int) := by omega
      clear hbig hn hb1 hb2 hb3
      go_wp2_with fail
      go_ret
      exact ⟨rfl, HBC.out⟩
    have hsI : (n : Int) ≤ 600 := by omega
    have HNS := Lib.hid (show n ≤ 600 by omega)
    have HBB := Lib.hid (And.intro hb1 hb2)
    clear hbig hn hb1 hb2 hb3
    have hkz : (k ++ zeroY 32).length = 64 := by rw [List.length_append, HLk.out]; rfl
    have SK := Lib.hid (size_keys _ hkz)
    have SR := Lib.hid (size_rkeys _ hkz)
    have SO := Lib.hid (yvs_one (k ++ zeroY 32))
    have HBP := Lib.hid (penc_build k HLk.out)
    have HBR := Lib.hid (renc_build k HLk.out)
    have HTA := Lib.hid (fun W => rtable_any W)
    clear hkz
    cases o with
    | false =>
      obtain ⟨PA, hpa⟩ : ∃ z, P = z := ⟨_, rfl⟩
      rw [hpa] at HXQ
      have HO := Lib.hid (fun (W : World) (hb : Below w.heap.size w W) (ht : Bts W ba n bc Y) => popen12_any k (zeroY 32) PA Y ba n bc W (HK.out.below hb HK.out.pos) HLk.out rfl ht)
      have HQO := Lib.hid (fun (W : World) (ht : Bts W ba n bc Y) => ropen12_any k (zeroY 32) PA Y ba n bc W HLk.out rfl ht)
      have HF := Lib.hid (fun (W : World) (hb : Below w.heap.size w W) (ht : Bts W ba n bc Y) => pfits_any PA (Y.map yv) ba n bc W (HK.out.below hb HK.out.pos) ht.1 (by rw [List.length_map]; exact ht.2.1) ht.2.2.1 ht.2.2.2)
      have HRF := Lib.hid (fun (W : World) (ht : Bts W ba n bc Y) => rfits_any PA (Y.map yv) ba n bc W ht.1 (by rw [List.length_map]; exact ht.2.1) ht.2.2.1 ht.2.2.2)
      obtain ⟨OA, OE, hoa⟩ : ∃ S E, openA k PA Y = (S, E) := ⟨_, _, rfl⟩
      rw [hoa] at HO HQO
      have SP := Lib.hid (size_ptrA PA)
      have SPL := Lib.hid (size_ptr PA)
      dsimp only at HO HQO
      generalize fitsB PA (Y.map yv) = D at *
      have hdd : (D == D) = true := by simp
      have hee : (OE == OE) = true := by simp
      clear hpa hoa
      generalize ptrRow PA = PL at *
      generalize yvs boxesL = TB at *
      generalize yvs (k ++ zeroY 32) = KM at *
      generalize yvs k = YK at *
      go_wp2_with (first
        | (with_reducible refine wpList_load_row (o := ⟨some 29, _, _, _, _, _⟩) rfl 24 _ rfl X rfl 24 YK (0, 0) _ HXX.out Tryd.underlying24 rfl Sk.out ?_)
        | (with_reducible refine wpList_build_run (o := ⟨some 30, _, _, _, _, _⟩) rfl 28 _ rfl #[(0, .agg YK)] (by simp [Act.eval, Act.put]) (.agg KM) (HBP.out _) ?_)
        | (with_reducible refine wpList_load_row (o := ⟨some 31, _, _, _, _, _⟩) rfl 41 _ rfl Q rfl 41 PL.toArray (0, 0) _ HXQ.out Tryd.underlying41 rfl SP.out ?_))
      refine (HO.out _ HBC.out HBT.out).mono ?_
      rintro e w9 ⟨x9, y9, z9, rfl, ht, hb⟩
      have HT9 := Lib.hid ht
      have RX101 := Lib.hid ((hb.block _ (lt_of_block HXX.out)).trans HXX.out)
      have RQ101 := Lib.hid ((hb.block _ (lt_of_block HXQ.out)).trans HXQ.out)
      have TI101 := Lib.hid (HBT.out.below hb)
      have HB101 := Lib.hid (HBC.out.trans (hb.mono HBC.out.size))
      clear HXX HXQ HBT HBC
      clear hb ht
      have HSV := Lib.hid (show ∀ W, Below w9.heap.size w9 W → W.rangeAt X 0 YK.toList ∧ W.rangeAt Q 0 PL from fun W hW => ⟨range_of_row ((hW.block _ (lt_of_block RX101.out)).trans RX101.out), range_of_row ((hW.block _ (lt_of_block RQ101.out)).trans RQ101.out)⟩)
      go_upto_region 9 with fail
      try simp only [Act.put]
      refine wp_region_noPanic ?_
      refine wp_region_held_drew (S := fun W => W.rangeAt X 0 YK.toList ∧ W.rangeAt Q 0 PL) (by kernel_rfl) (HSV.out _ (Below.refl _ w9).drew) (fun hHeld => ?_)
      refine wpAnyH_take (i := 1) (oi := ⟨some 38, _, _, _, _, _⟩) rfl (by kernel_rfl) (by decide +kernel) (by decide +kernel) (fun _ _ _ h => h) (yieldsIf_load_mid (by rfl) _ _ rfl (X) (0) rfl YK.toList _ (fun w' h => h.1) Tryd.underlying24 rfl Ik.out) (by assumption) ?_
      try simp only [Act.put, List.setIfInBounds_toArray, List.set_cons_zero, List.set_cons_succ, Array.toArray_toList]
      refine wpAnyH_take (i := 2) (oi := ⟨some 39, _, _, _, _, _⟩) rfl (by kernel_rfl) (by decide +kernel) (by decide +kernel) (fun _ _ _ h => h) (yieldsIf_build (by rfl) 31 _ rfl #[(0, .agg YK)] (.agg KM) (by simp [Act.eval]) (fun W => HBR.out W)) (by assumption) ?_
      try simp only [Act.put, List.setIfInBounds_toArray, List.set_cons_zero, List.set_cons_succ]
      refine wpAnyH_take (i := 3) (oi := ⟨some 40, _, _, _, _, _⟩) rfl (by kernel_rfl) (by decide +kernel) (by decide +kernel) (fun _ _ _ h => h) (yieldsIf_load_mid (by rfl) _ _ rfl (Q) (0) rfl PL _ (fun w' h => h.2) Tryd.underlying41 rfl SPL.out) (by assumption) ?_
      try simp only [Act.put, List.setIfInBounds_toArray, List.set_cons_zero, List.set_cons_succ]
      refine wpAnyH_take (i := 4) (oi := ⟨some 41, _, _, _, _, _⟩) (v := ?_) rfl (by kernel_rfl) (by decide +kernel) (by decide +kernel) (fun _ _ _ h => h) (Or.inl ⟨by rfl, ?_⟩) (by assumption) ?_
      rotate_left 1
      · (intro w' hSw; go_simp; try with_reducible rfl)
      try simp only [Act.put, List.setIfInBounds_toArray, List.set_cons_zero, List.set_cons_succ]
      clear hHeld
      refine wpAnyH_ready (rs := [0]) (by decide +kernel) (by simp) ?_
      refine AllReadyH.cons rfl (fun K hK => ?_) AllReadyH.nil
      go_simp
      go_at_call 13
      refine (HTA.out _).mono ?_
      rintro e w10 ⟨rfl, hb⟩
      have HB10 := Lib.hid ((Below.refl w9.heap.size w9).drew.trans (hb.mono (Below.refl w9.heap.size w9).drew.size))
      clear hb
      go_wp2_with fail
      refine hK.out _ _ (HSV.out _ HB10.out) (fun hHeld => ?_)
      clear hK K hHeld
      try simp only [Act.put, List.setIfInBounds_toArray, List.set_cons_zero, List.set_cons_succ]
      refine wpAnyH_ready (rs := [5]) (by decide +kernel) (by simp) ?_
      refine AllReadyH.cons rfl (fun K hK => ?_) AllReadyH.nil
      go_simp
      go_at_call 18
      refine (HQO.out _ (TI101.out.below HB10.out)).mono ?_
      rintro e w11 ⟨x11, y11, z11, rfl, ht, hb⟩
      have HB11 := Lib.hid (HB10.out.trans (hb.mono HB10.out.size))
      have HT11 := Lib.hid ht
      clear hb ht
      go_wp2_with fail
      refine hK.out _ _ (HSV.out _ HB11.out) (fun hHeld => ?_)
      clear hK K
      try simp only [Act.put, List.setIfInBounds_toArray, List.set_cons_zero, List.set_cons_succ]
      refine wpAnyH_take (i := 6) (oi := ⟨some 36, _, _, _, _, _⟩) (v := ?_) rfl (by kernel_rfl) (by decide +kernel) (by decide +kernel) (fun _ _ _ h => h) (Or.inl ⟨by rfl, ?_⟩) (by assumption) ?_
      rotate_left 1
      · (intro w' hSw; go_simp; try with_reducible rfl)
      try simp only [Act.put, List.setIfInBounds_toArray, List.set_cons_zero, List.set_cons_succ]
      refine wpAnyH_take (i := 7) (oi := ⟨some 43, _, _, _, _, _⟩) (v := ?_) rfl (by kernel_rfl) (by decide +kernel) (by decide +kernel) (fun _ _ _ h => h) (Or.inl ⟨by rfl, ?_⟩) (by assumption) ?_
      rotate_left 1
      · (intro w' hSw; go_simp; try with_reducible rfl)
      try simp only [Act.put, List.setIfInBounds_toArray, List.set_cons_zero, List.set_cons_succ]
      refine wpAnyH_take (i := 8) (oi := ⟨some 44, _, _, _, _, _⟩) (v := ?_) rfl (by kernel_rfl) (by decide +kernel) (by decide +kernel) (fun _ _ _ h => h) (Or.inl ⟨by rfl, ?_⟩) (by assumption) ?_
      rotate_left 1
      · (intro w' hSw; go_simp; try with_reducible rfl)
      try simp only [Act.put, List.setIfInBounds_toArray, List.set_cons_zero, List.set_cons_succ]
      refine wpAnyH_take (i := 9) (oi := ⟨some 9, _, _, _, _, _⟩) (v := ?_) rfl (by kernel_rfl) (by decide +kernel) (by decide +kernel) (fun _ _ _ h => h) (Or.inl ⟨by rfl, ?_⟩) (by assumption) ?_
      rotate_left 1
      · (intro w' hSw; go_simp; try with_reducible rfl)
      try simp only [Act.put, List.setIfInBounds_toArray, List.set_cons_zero, List.set_cons_succ]
      refine wpAnyH_take (i := 10) (oi := ⟨some 10, _, _, _, _, _⟩) (v := ?_) rfl (by kernel_rfl) (by decide +kernel) (by decide +kernel) (fun _ _ _ h => h) (Or.inl ⟨by rfl, ?_⟩) (by assumption) ?_
      rotate_left 1
      · (intro w' hSw; go_simp; try with_reducible rfl)
      try simp only [Act.put, List.setIfInBounds_toArray, List.set_cons_zero, List.set_cons_succ]
      clear hHeld
      refine wpAnyH_done (by decide +kernel) ?_ _
      refine NoPanic.normal ?_
      have RX102 := Lib.hid ((HB11.out.block _ (lt_of_block RX101.out)).trans RX101.out)
      have RQ102 := Lib.hid ((HB11.out.block _ (lt_of_block RQ101.out)).trans RQ101.out)
      have TI102 := Lib.hid (TI101.out.below HB11.out)
      have TO102 := Lib.hid (HT9.out.below HB11.out)
      have HB102 := Lib.hid (HB101.out.trans (HB11.out.mono HB101.out.size))
      clear RX101 RQ101 TI101 HT9 HB101
      have HRG := Lib.hid (by_range (range_of_row RQ102.out))
      have HFF := Lib.hid (fun p : BelowBy w11 => HF.out p.now (HB102.out.trans (p.bel.mono HB102.out.size)) (TI102.out.below p.bel))
      have HRR := Lib.hid (fun p : BelowBy w11 => HRF.out p.now (TI102.out.below p.bel))
      have HSM := Lib.hid (fun p : BelowBy w11 => same_eq p.now _ _ _ (TO102.out.below p.bel).1 (HT11.out.below p.bel).1)
      clear HF HRF HO HQO HSV HTA
      go_upto_region 10 with fail
      refine wp_region_below (by kernel_rfl) (by kernel_rfl) ?_
      repeat (first
        | (with_reducible refine quiet_load_row (o := ⟨some 45, _, _, _, _, _⟩) (by kernel_rfl) 41 _ rfl Q 0 rfl PL _ HRG.out Tryd.underlying41 rfl SPL.out ?_
           simp only [Act.put, List.setIfInBounds_toArray, List.set_cons_zero, List.set_cons_succ])
        | (with_reducible refine quiet_load_row (o := ⟨some 48, _, _, _, _, _⟩) (by kernel_rfl) 41 _ rfl Q 0 rfl PL _ HRG.out Tryd.underlying41 rfl SPL.out ?_
           simp only [Act.put, List.setIfInBounds_toArray, List.set_cons_zero, List.set_cons_succ])
        | (go_big_quiet_step (first
            | (go_at_call 20; exact calls_below (HFF.out _))
            | (go_at_call 21; exact calls_below (HRR.out _))
            | (go_at_call 16; exact calls_below_same (HSM.out _)))))
      refine wpQuiet_nil ?_
      intro _ hw'
      obtain ⟨p, hw''⟩ := hw'
      subst hw''
      go_wp2_with fail
      go_ret
      exact ⟨by simp, HB102.out.trans (p.bel.mono HB102.out.size)⟩
    | true =>
      have HSU := Lib.hid (shasum_any b (.slice ba n bc) wc (HK.out.below HBC.out HK.out.pos) (by have h := HBT.out.1; rw [HTY.out] at h; exact h) (room_of _ _ _ HBB.out.1 (by have := HBB.out.2; omega)) (by have := HNB.out; have := HNS.out; omega))
      go_wp2_with fail
      refine (HSU.out).mono ?_
      rintro e w7 ⟨rfl, hb⟩
      have RX101 := Lib.hid ((hb.block _ (lt_of_block HXX.out)).trans HXX.out)
      have RQ101 := Lib.hid ((hb.block _ (lt_of_block HXQ.out)).trans HXQ.out)
      have TI101 := Lib.hid (HBT.out.below hb)
      have HB101 := Lib.hid (HBC.out.trans (hb.mono HBC.out.size))
      clear HXX HXQ HBT HBC
      clear hb HSU
      have HTH := Lib.hid (sum_there RQ101.out)
      have HSS := Lib.hid (sum_store b RQ101.out)
      have SH2 := Lib.hid (show (Tryd.prog.info? 26).map (·.size) = some (u8s (hashS b)).size by rw [show (Tryd.prog.info? 26).map (·.size) = some 32 by kernel_rfl, u8s_size, hashS_length])
      have SO2 := Lib.hid (u8s_one (hashS b))
      have HTH2 := Lib.hid (show w7.there Q 2 (u8s (hashS b)).size by rw [u8s_size, hashS_length]; exact HTH.out)
      clear HTH
      have HW8 := Lib.hid (setCells_block HNXQ.out (u8s (hashS b)).toList 2 w7)
      have HB8 := Lib.hid (below_setCells HGQ.out (u8s (hashS b)).toList 2 w7 HB101.out)
      go_upto_region 8 with (first
        | (with_reducible refine wpList_store_mid (op := ⟨none, .store _ (.tmp 27) _, _, _, _, _⟩) rfl 26 _ _ rfl Q 2 (u8s (hashS b)) rfl rfl HTH2.out SH2.out SO2.out ?_))
      have HX8 := Lib.hid (HW8.out.trans RX101.out)
      have HT8 := Lib.hid (HI0.out.below HB8.out)
      clear HTH2 SH2 SO2 HW8 RX101 RQ101 HB101 TI101
      generalize World.setCells _ _ _ _ = w8 at *
      obtain ⟨PA, hpa⟩ : ∃ z, ptrSum P b = z := ⟨_, rfl⟩
      rw [hpa] at HSS
      have HO := Lib.hid (fun (W : World) (hb : Below w.heap.size w W) (ht : Bts W ba n bc Y) => popen12_any k (zeroY 32) PA Y ba n bc W (HK.out.below hb HK.out.pos) HLk.out rfl ht)
      have HQO := Lib.hid (fun (W : World) (ht : Bts W ba n bc Y) => ropen12_any k (zeroY 32) PA Y ba n bc W HLk.out rfl ht)
      have HF := Lib.hid (fun (W : World) (hb : Below w.heap.size w W) (ht : Bts W ba n bc Y) => pfits_any PA (Y.map yv) ba n bc W (HK.out.below hb HK.out.pos) ht.1 (by rw [List.length_map]; exact ht.2.1) ht.2.2.1 ht.2.2.2)
      have HRF := Lib.hid (fun (W : World) (ht : Bts W ba n bc Y) => rfits_any PA (Y.map yv) ba n bc W ht.1 (by rw [List.length_map]; exact ht.2.1) ht.2.2.1 ht.2.2.2)
      obtain ⟨OA, OE, hoa⟩ : ∃ S E, openA k PA Y = (S, E) := ⟨_, _, rfl⟩
      rw [hoa] at HO HQO
      have SP := Lib.hid (size_ptrA PA)
      have SPL := Lib.hid (size_ptr PA)
      dsimp only at HO HQO
      generalize fitsB PA (Y.map yv) = D at *
      have hdd : (D == D) = true := by simp
      have hee : (OE == OE) = true := by simp
      clear hpa hoa
      generalize ptrRow PA = PL at *
      generalize yvs boxesL = TB at *
      generalize yvs (k ++ zeroY 32) = KM at *
      generalize yvs k = YK at *
      go_wp2_with (first
        | (with_reducible refine wpList_load_row (o := ⟨some 29, _, _, _, _, _⟩) rfl 24 _ rfl X rfl 24 YK (0, 0) _ HX8.out Tryd.underlying24 rfl Sk.out ?_)
        | (with_reducible refine wpList_build_run (o := ⟨some 30, _, _, _, _, _⟩) rfl 28 _ rfl #[(0, .agg YK)] (by simp [Act.eval, Act.put]) (.agg KM) (HBP.out _) ?_)
        | (with_reducible refine wpList_load_row (o := ⟨some 31, _, _, _, _, _⟩) rfl 41 _ rfl Q rfl 41 PL.toArray (0, 0) _ HSS.out Tryd.underlying41 rfl SP.out ?_))
      refine (HO.out _ HB8.out HT8.out).mono ?_
      rintro e w9 ⟨x9, y9, z9, rfl, ht, hb⟩
      have HT9 := Lib.hid ht
      have RX101 := Lib.hid ((hb.block _ (lt_of_block HX8.out)).trans HX8.out)
      have RQ101 := Lib.hid ((hb.block _ (lt_of_block HSS.out)).trans HSS.out)
      have TI101 := Lib.hid (HT8.out.below hb)
      have HB101 := Lib.hid (HB8.out.trans (hb.mono HB8.out.size))
      clear HX8 HSS HT8 HB8
      clear hb ht
      have HSV := Lib.hid (show ∀ W, Below w9.heap.size w9 W → W.rangeAt X 0 YK.toList ∧ W.rangeAt Q 0 PL from fun W hW => ⟨range_of_row ((hW.block _ (lt_of_block RX101.out)).trans RX101.out), range_of_row ((hW.block _ (lt_of_block RQ101.out)).trans RQ101.out)⟩)
      go_upto_region 9 with fail
      try simp only [Act.put]
      refine wp_region_noPanic ?_
      refine wp_region_held_drew (S := fun W => W.rangeAt X 0 YK.toList ∧ W.rangeAt Q 0 PL) (by kernel_rfl) (HSV.out _ (Below.refl _ w9).drew) (fun hHeld => ?_)
      refine wpAnyH_take (i := 1) (oi := ⟨some 38, _, _, _, _, _⟩) rfl (by kernel_rfl) (by decide +kernel) (by decide +kernel) (fun _ _ _ h => h) (yieldsIf_load_mid (by rfl) _ _ rfl (X) (0) rfl YK.toList _ (fun w' h => h.1) Tryd.underlying24 rfl Ik.out) (by assumption) ?_
      try simp only [Act.put, List.setIfInBounds_toArray, List.set_cons_zero, List.set_cons_succ, Array.toArray_toList]
      refine wpAnyH_take (i := 2) (oi := ⟨some 39, _, _, _, _, _⟩) rfl (by kernel_rfl) (by decide +kernel) (by decide +kernel) (fun _ _ _ h => h) (yieldsIf_build (by rfl) 31 _ rfl #[(0, .agg YK)] (.agg KM) (by simp [Act.eval]) (fun W => HBR.out W)) (by assumption) ?_
      try simp only [Act.put, List.setIfInBounds_toArray, List.set_cons_zero, List.set_cons_succ]
      refine wpAnyH_take (i := 3) (oi := ⟨some 40, _, _, _, _, _⟩) rfl (by kernel_rfl) (by decide +kernel) (by decide +kernel) (fun _ _ _ h => h) (yieldsIf_load_mid (by rfl) _ _ rfl (Q) (0) rfl PL _ (fun w' h => h.2) Tryd.underlying41 rfl SPL.out) (by assumption) ?_
      try simp only [Act.put, List.setIfInBounds_toArray, List.set_cons_zero, List.set_cons_succ]
      refine wpAnyH_take (i := 4) (oi := ⟨some 41, _, _, _, _, _⟩) (v := ?_) rfl (by kernel_rfl) (by decide +kernel) (by decide +kernel) (fun _ _ _ h => h) (Or.inl ⟨by rfl, ?_⟩) (by assumption) ?_
      rotate_left 1
      · (intro w' hSw; go_simp; try with_reducible rfl)
      try simp only [Act.put, List.setIfInBounds_toArray, List.set_cons_zero, List.set_cons_succ]
      clear hHeld
      refine wpAnyH_ready (rs := [0]) (by decide +kernel) (by simp) ?_
      refine AllReadyH.cons rfl (fun K hK => ?_) AllReadyH.nil
      go_simp
      go_at_call 13
      refine (HTA.out _).mono ?_
      rintro e w10 ⟨rfl, hb⟩
      have HB10 := Lib.hid ((Below.refl w9.heap.size w9).drew.trans (hb.mono (Below.refl w9.heap.size w9).drew.size))
      clear hb
      go_wp2_with fail
      refine hK.out _ _ (HSV.out _ HB10.out) (fun hHeld => ?_)
      clear hK K hHeld
      try simp only [Act.put, List.setIfInBounds_toArray, List.set_cons_zero, List.set_cons_succ]
      refine wpAnyH_ready (rs := [5]) (by decide +kernel) (by simp) ?_
      refine AllReadyH.cons rfl (fun K hK => ?_) AllReadyH.nil
      go_simp
      go_at_call 18
      refine (HQO.out _ (TI101.out.below HB10.out)).mono ?_
      rintro e w11 ⟨x11, y11, z11, rfl, ht, hb⟩
      have HB11 := Lib.hid (HB10.out.trans (hb.mono HB10.out.size))
      have HT11 := Lib.hid ht
      clear hb ht
      go_wp2_with fail
      refine hK.out _ _ (HSV.out _ HB11.out) (fun hHeld => ?_)
      clear hK K
      try simp only [Act.put, List.setIfInBounds_toArray, List.set_cons_zero, List.set_cons_succ]
      refine wpAnyH_take (i := 6) (oi := ⟨some 36, _, _, _, _, _⟩) (v := ?_) rfl (by kernel_rfl) (by decide +kernel) (by decide +kernel) (fun _ _ _ h => h) (Or.inl ⟨by rfl, ?_⟩) (by assumption) ?_
      rotate_left 1
      · (intro w' hSw; go_simp; try with_reducible rfl)
      try simp only [Act.put, List.setIfInBounds_toArray, List.set_cons_zero, List.set_cons_succ]
      refine wpAnyH_take (i := 7) (oi := ⟨some 43, _, _, _, _, _⟩) (v := ?_) rfl (by kernel_rfl) (by decide +kernel) (by decide +kernel) (fun _ _ _ h => h) (Or.inl ⟨by rfl, ?_⟩) (by assumption) ?_
      rotate_left 1
      · (intro w' hSw; go_simp; try with_reducible rfl)
      try simp only [Act.put, List.setIfInBounds_toArray, List.set_cons_zero, List.set_cons_succ]
      refine wpAnyH_take (i := 8) (oi := ⟨some 44, _, _, _, _, _⟩) (v := ?_) rfl (by kernel_rfl) (by decide +kernel) (by decide +kernel) (fun _ _ _ h => h) (Or.inl ⟨by rfl, ?_⟩) (by assumption) ?_
      rotate_left 1
      · (intro w' hSw; go_simp; try with_reducible rfl)
      try simp only [Act.put, List.setIfInBounds_toArray, List.set_cons_zero, List.set_cons_succ]
      refine wpAnyH_take (i := 9) (oi := ⟨some 9, _, _, _, _, _⟩) (v := ?_) rfl (by kernel_rfl) (by decide +kernel) (by decide +kernel) (fun _ _ _ h => h) (Or.inl ⟨by rfl, ?_⟩) (by assumption) ?_
      rotate_left 1
      · (intro w' hSw; go_simp; try with_reducible rfl)
      try simp only [Act.put, List.setIfInBounds_toArray, List.set_cons_zero, List.set_cons_succ]
      refine wpAnyH_take (i := 10) (oi := ⟨some 10, _, _, _, _, _⟩) (v := ?_) rfl (by kernel_rfl) (by decide +kernel) (by decide +kernel) (fun _ _ _ h => h) (Or.inl ⟨by rfl, ?_⟩) (by assumption) ?_
      rotate_left 1
      · (intro w' hSw; go_simp; try with_reducible rfl)
      try simp only [Act.put, List.setIfInBounds_toArray, List.set_cons_zero, List.set_cons_succ]
      clear hHeld
      refine wpAnyH_done (by decide +kernel) ?_ _
      refine NoPanic.normal ?_
      have RX102 := Lib.hid ((HB11.out.block _ (lt_of_block RX101.out)).trans RX101.out)
      have RQ102 := Lib.hid ((HB11.out.block _ (lt_of_block RQ101.out)).trans RQ101.out)
      have TI102 := Lib.hid (TI101.out.below HB11.out)
      have TO102 := Lib.hid (HT9.out.below HB11.out)
      have HB102 := Lib.hid (HB101.out.trans (HB11.out.mono HB101.out.size))
      clear RX101 RQ101 TI101 HT9 HB101
      have HRG := Lib.hid (by_range (range_of_row RQ102.out))
      have HFF := Lib.hid (fun p : BelowBy w11 => HF.out p.now (HB102.out.trans (p.bel.mono HB102.out.size)) (TI102.out.below p.bel))
      have HRR := Lib.hid (fun p : BelowBy w11 => HRF.out p.now (TI102.out.below p.bel))
      have HSM := Lib.hid (fun p : BelowBy w11 => same_eq p.now _ _ _ (TO102.out.below p.bel).1 (HT11.out.below p.bel).1)
      clear HF HRF HO HQO HSV HTA
      go_upto_region 10 with fail
      refine wp_region_below (by kernel_rfl) (by kernel_rfl) ?_
      repeat (first
        | (with_reducible refine quiet_load_row (o := ⟨some 45, _, _, _, _, _⟩) (by kernel_rfl) 41 _ rfl Q 0 rfl PL _ HRG.out Tryd.underlying41 rfl SPL.out ?_
           simp only [Act.put, List.setIfInBounds_toArray, List.set_cons_zero, List.set_cons_succ])
        | (with_reducible refine quiet_load_row (o := ⟨some 48, _, _, _, _, _⟩) (by kernel_rfl) 41 _ rfl Q 0 rfl PL _ HRG.out Tryd.underlying41 rfl SPL.out ?_
           simp only [Act.put, List.setIfInBounds_toArray, List.set_cons_zero, List.set_cons_succ])
        | (go_big_quiet_step (first
            | (go_at_call 20; exact calls_below (HFF.out _))
            | (go_at_call 21; exact calls_below (HRR.out _))
            | (go_at_call 16; exact calls_below_same (HSM.out _)))))
      refine wpQuiet_nil ?_
      intro _ hw'
      obtain ⟨p, hw''⟩ := hw'
      subst hw''
      go_wp2_with fail
      go_ret
      exact ⟨by simp, HB102.out.trans (p.bel.mono HB102.out.size)⟩
set_option maxRecDepth 100000 in
theorem lifted (os : Os) (started : os.Started) (H : Type) (enc : TypeId × Value → H) :
    ReturnsInHanded {} Tryd.checked os 5 .any (fun w args => (Rows.sealOpensSpec.pre enc Tryd.prog Tryd.f5 [] false w args ∧ laidMetH Tryd.prog [("banyan/sha.roundNumbers", Rows.laid_banyan_sha_roundNumbers)] w) ∧ sizedMet enc Tryd.prog Tryd.f5 (OpenSpec.ofChange Rows.sealOpensSpec) false w args)
      (Rows.sealOpensSpec.post enc Tryd.prog Tryd.f5 false true false false) := by
  refine returnsInHanded_of_change_and (C := Tryd.checked) (X := fun w _ => laidMetH Tryd.prog [("banyan/sha.roundNumbers", Rows.laid_banyan_sha_roundNumbers)] w) (fun _ _ _ hh h => h.of_heap hh) own2 started (by kernel_rfl) Tryd.func5
    (ChangeSpec.witness_shaped (enc := enc) (C := Tryd.checked) (os := os) (X := fun w _ => laidMetH Tryd.prog [("banyan/sha.roundNumbers", Rows.laid_banyan_sha_roundNumbers)] w) false (World.doorLaid Tryd.prog 400 os) #[.agg (List.replicate 32 (Value.int .u8 0) ++ (([Value.int .u32 0, .int .u64 0] ++ List.replicate 32 (Value.int .u8 0)) ++ ([Value.slice none 0 0] ++ ([Value.bool false])))).toArray] 8 rfl (World.shaped_of_RefB (by kernel_rfl) (by kernel_rfl)) (by kernel_rfl) (by kernel_rfl) (by kernel_rfl) (door_met os _)) ?_
  intro W base args ds gs before hval0 hW _ hsz0 hL _
  have hval : ∀ (j : Nat) t v, Tryd.f5.params[j]? = some t → args[j]? = some v → Value.okWide Tryd.prog W .any base t v := hval0
  have hsz : (DataW.weightsEach Tryd.prog (Tryd.f5.params.toList ++ Rows.sealOpensSpec.plain.varTypes Tryd.prog) (ds ++ gs)).all (· ≤ reachBytes) = true := hsz0
  clear hsz0
  have hW' := hW
  obtain ⟨p, q, hA0, hV, rfl, hfz, hnd⟩ := hW
  have hA : DataW.TrodAll enc Tryd.prog W 0 (fun _ => true) true Tryd.f5.params.toList args.toList ds p := hA0
  rw [Tryd.params5] at hA hval hsz
  obtain ⟨v0, vs0, d0, ds0, p0, q0, hargs, rfl, rfl, h0, r0⟩ := trodAll_cons hA
  obtain ⟨rfl, rfl, rfl⟩ := trodAll_nil r0
  obtain rfl : args = #[v0] := by cases args; simp_all
  obtain ⟨rfl, rfl⟩ := trodVars_none hV
  have k0 := h0
  have lt0 : ∀ x ∈ p0, x.block < W.heap.size := by obtain ⟨m, hm⟩ := k0; exact DataW.trod_lt m _ _ _ hm
  obtain ⟨k, P, ba, bc, b, o, rfl, qf⟩ := par_opened12 (j := 0) (hval 0 52 v0 rfl rfl) h0 hsz rfl rfl
  have hK := of_laid hL
  clear hA0 hval0
  refine (walk W k P ba bc b o qf hK).mono fun e W' ⟨he, bel⟩ => ?_
  subst he
  exact ⟨_, rfl, _, _, _, [], _, [], hW', trodAll_mk1 (shut_bool Tryd.underlying4 _), (trodAll_cons_mk (Below.trod laidOut2 (by kernel_rfl) (of_decide_eq_true (by kernel_rfl)) k0 bel lt0) trodAll_mk0), rfl, bel.frame _, fun h => by cases h⟩

theorem over : Rows.SealOpensSaid :=
  OpenClaim.holds_of_wide 5 Tryd.f5 rfl rfl rfl rfl rfl rfl rfl ⟨rfl, rfl, rfl, rfl, rfl⟩ rfl rfl rfl rfl rfl (by kernel_rfl) Tryd.func5 (by kernel_rfl)
    (of_decide_eq_true (by kernel_rfl)) (by unfold Func.isWrapper; first | (rw [if_pos (by decide +kernel)]; kernel_rfl) | (rw [if_neg (by decide +kernel)]; exact ⟨rfl, rfl⟩))
    (fun os started H enc _ => lifted os started H enc)

/-- The statement. -/
theorem proved : Rows.SealOpensCardSaid :=
  Claim7.holds_tied_plain_at .later [] [.data] true (true, "0131f9f1a1f02ebf5a16687d2fe8903395483cdb43346dae7a1c73827a36235e") false
    over (fun _ h => by cases h) (by kernel_rfl) (fun _ h => by cases h) sealOpens_row_tie rfl ⟨rfl, rfl⟩ (by kernel_rfl) rfl
    (fun f fn hf hfn => by
      obtain rfl : f = 5 := Option.some.inj ((show Tryd.prog.funcNamed "banyan/banyanlaw12.SealOpens" = some 5 by kernel_rfl).symm.trans hf) |>.symm
      obtain rfl : fn = Tryd.f5 := (Option.some.inj (Tryd.func5.symm.trans hfn)).symm
      exact ⟨by kernel_rfl, fun j t ht => by
        rw [Tryd.params5] at ht
        have hm : t ∈ [52] := by simpa using Array.mem_of_getElem? ht
        have hall : ([52].all fun u => !Tryd.prog.wantsStandIn u) = true := by kernel_rfl
        exact (show Tryd.prog.wantsStandIn t = false by simpa using List.all_eq_true.1 hall t hm)⟩)
    (by kernel_rfl)
#print axioms proved
end Go.Proofs.YtfgdddejpdjllaaDoor.sealOpens
