/-
  'MacCodes' returns true at every input, and each argument reads behind the call as it read before. Conditions: the package-level variable that the row lists starts as the program's text lays it (the card ties that).
-/
import Derived.Test.YtpmeiadnikenmaaDoorLaid
import Derived.Test.YtpmeiadnikenmaaDoorCards
import Derived.Test.YtpmeiadnikenmaaDoorTie
import Derived.Test.YtpmeiadnikenmaaDoorZeros
import Derived.Test.YtpmeiadnikenmaaDoorOpen3
import Derived.Test.YtpmeiadnikenmaaDoorRMac
import Derived.Deep.DeepCutAuto
namespace Go.Proofs.YtpmeiadnikenmaaDoor.macCodes
open Go.ChangeShapes Go.WideShapes Go.ChangeAt Go.RowKit
open Go.ChangeMaps (open_string shut_string)
set_option linter.unusedVariables false


set_option maxRecDepth 100000 in
set_option maxHeartbeats 1600000 in
theorem walk (w : World) (a0 : Option Addr) (len0 cap0 : Nat) (l0 : List Int) (a1 : Option Addr) (len1 cap1 : Nat) (l1 x0 : List Int) (o0 : Bool) (e0 : l0.length = len0) (b0 : BS w (.slice a0 len0 cap0) l0) (m0 : len0 ≤ cap0) (n0 : cap0 ≤ 140737488351232) (e1 : l1.length = len1) (b1 : BS w (.slice a1 len1 cap1) l1) (m1 : len1 ≤ cap1) (n1 : cap1 ≤ 140737488351232) (hx0 : x0.length = 32) (hy0 : Byt x0) (hK : KT w) :
    Calls Tryd.prog 5 #[.agg (codeCells a0 len0 cap0 a1 len1 cap1 x0 o0)] w fun e w' => e = .returned (.bool true) ∧ Below w.heap.size w w' := by
  have HK := Lib.hid hK
  have HPOS := Lib.hid hK.pos
  have HB0 := Lib.hid b0
  have HB1 := Lib.hid b1
  have HE := Lib.hid (And.intro e0 e1)
  have HM := Lib.hid (And.intro m0 (And.intro m1 (And.intro n0 n1)))
  have HX := Lib.hid (And.intro hx0 hy0)
  have len0I : (len0 : Int) ≤ 140737488351232 := by omega
  have len1I : (len1 : Int) ≤ 140737488351232 := by omega
  clear hK b0 b1 e0 e1 m0 m1 n0 n1
  go_enter Tryd.func5, Tryd.ntmps5
  go_wp2_with fail
  have hb0 := (Below.refl w.heap.size w).alloc (Nat.le_refl _) (.cells (codeCells a0 len0 cap0 a1 len1 cap1 x0 o0) 44)
  have hA0 := heap_alloc_new w (.cells (codeCells a0 len0 cap0 a1 len1 cap1 x0 o0) 44)
  refine (alive3_any _ (HK.out.below hb0 HPOS.out)).mono ?_
  rintro e w1 ⟨rfl, hb1⟩
  have HBE1 := Lib.hid (hb0.trans (hb1.mono hb0.size))
  have hA1 := (hb1.block w.heap.size (by simp)).trans hA0
  have HLT1 := Lib.hid (show w.heap.size < w1.heap.size by have := hb1.size; simp at this; omega)
  have HS1 := Lib.hid (fun (W : World) (hb : Below w1.heap.size w1 W) => show W.cell? ⟨w.heap.size, 0, none⟩ = some (.slice a0 len0 cap0) ∧ W.cell? ⟨w.heap.size, 1, none⟩ = some (.slice a1 len1 cap1) ∧ W.rangeAt w.heap.size 2 (u8s x0).toList ∧ W.cell? ⟨w.heap.size, 34, none⟩ = some (.bool o0) from by
    have hA := (hb.block w.heap.size HLT1.out).trans hA1
    exact ⟨cell_of_row W _ 0 _ _ _ hA, cell_of_row W _ 1 _ _ _ hA, code_range hA, code_own hA HX.out.1⟩)
  clear hb0 hA0 hb1 hA1
  go_upto_region 3 with (fail)
  have S24 := Lib.hid (size_h32 x0 HX.out.1)
  have SE := Lib.hid (show (u8s (List.replicate 32 0)).size = (u8s x0).size by rw [u8s_size, u8s_size, HX.out.1]; rfl)
  generalize hB : w.heap.size = B at *
  have HBB := Lib.hid hB
  clear hB
  go_wp2_with fail
  refine wp_region_noPanic ?_
  refine wp_region_held_drew (S := fun W => W.cell? ⟨B, 0, none⟩ = some (.slice a0 len0 cap0) ∧ W.cell? ⟨B, 1, none⟩ = some (.slice a1 len1 cap1) ∧ W.rangeAt B 2 (u8s x0).toList ∧ W.cell? ⟨B, 34, none⟩ = some (.bool o0)) (by kernel_rfl) (HS1.out _ (Below.refl _ w1).drew) (fun hHeld => ?_)
  refine wpAnyH_take (i := 0) (oi := ⟨some 10, _, _, _, _, _⟩) (v := ?_) rfl (by kernel_rfl) (by decide +kernel) (by decide +kernel) (fun _ _ _ h => h) (Or.inl ⟨by rfl, ?_⟩) (by assumption) ?_
  rotate_left 1
  · (intro w' hSw; obtain ⟨d0, d1, _, d3⟩ := hSw; go_simp; try with_reducible rfl)
  try simp only [Act.put, List.setIfInBounds_toArray, List.set_cons_zero, List.set_cons_succ]
  refine wpAnyH_take (i := 1) (oi := ⟨some 11, _, _, _, _, _⟩) (v := ?_) rfl (by kernel_rfl) (by decide +kernel) (by decide +kernel) (fun _ _ _ h => h) (Or.inl ⟨by rfl, ?_⟩) (by assumption) ?_
  rotate_left 1
  · (intro w' hSw; obtain ⟨d0, d1, _, d3⟩ := hSw; go_simp; try with_reducible rfl)
  try simp only [Act.put, List.setIfInBounds_toArray, List.set_cons_zero, List.set_cons_succ]
  refine wpAnyH_take (i := 2) (oi := ⟨some 12, _, _, _, _, _⟩) (v := ?_) rfl (by kernel_rfl) (by decide +kernel) (by decide +kernel) (fun _ _ _ h => h) (Or.inl ⟨by rfl, ?_⟩) (by assumption) ?_
  rotate_left 1
  · (intro w' hSw; obtain ⟨d0, d1, _, d3⟩ := hSw; go_simp; try with_reducible rfl)
  try simp only [Act.put, List.setIfInBounds_toArray, List.set_cons_zero, List.set_cons_succ]
  refine wpAnyH_take (i := 3) (oi := ⟨some 13, _, _, _, _, _⟩) (v := ?_) rfl (by kernel_rfl) (by decide +kernel) (by decide +kernel) (fun _ _ _ h => h) (Or.inl ⟨by rfl, ?_⟩) (by assumption) ?_
  rotate_left 1
  · (intro w' hSw; obtain ⟨d0, d1, _, d3⟩ := hSw; go_simp; try with_reducible rfl)
  try simp only [Act.put, List.setIfInBounds_toArray, List.set_cons_zero, List.set_cons_succ]
  refine wpAnyH_take (i := 4) (oi := ⟨some 14, _, _, _, _, _⟩) (v := ?_) rfl (by kernel_rfl) (by decide +kernel) (by decide +kernel) (fun _ _ _ h => h) (Or.inl ⟨by rfl, ?_⟩) (by assumption) ?_
  rotate_left 1
  · (intro w' hSw; obtain ⟨d0, d1, _, d3⟩ := hSw; go_simp; try with_reducible rfl)
  try simp only [Act.put, List.setIfInBounds_toArray, List.set_cons_zero, List.set_cons_succ]
  refine wpAnyH_take (i := 5) (oi := ⟨some 15, _, _, _, _, _⟩) rfl (by kernel_rfl) (by decide +kernel) (by decide +kernel) (fun _ _ _ h => h) (yieldsIf_load_mid (by rfl) _ _ rfl B 2 rfl (u8s x0).toList _ (fun w' h => h.2.2.1) Tryd.underlying24 rfl S24.out) (by assumption) ?_
  try simp only [Act.put, List.setIfInBounds_toArray, List.set_cons_zero, List.set_cons_succ, Array.toArray_toList]
  refine wpAnyH_take (i := 6) (oi := ⟨some 16, _, _, _, _, _⟩) (v := ?_) rfl (by kernel_rfl) (by decide +kernel) (by decide +kernel) (fun _ _ _ h => h) (Or.inl ⟨by rfl, ?_⟩) (by assumption) ?_
  rotate_left 1
  · (intro w' hSw; obtain ⟨d0, d1, _, d3⟩ := hSw; go_simp; try with_reducible rfl)
  try simp only [Act.put, List.setIfInBounds_toArray, List.set_cons_zero, List.set_cons_succ]
  refine wpAnyH_take (i := 7) (oi := ⟨some 17, _, _, _, _, _⟩) (v := ?_) rfl (by kernel_rfl) (by decide +kernel) (by decide +kernel) (fun _ _ _ h => h) (Or.inl ⟨by rfl, ?_⟩) (by assumption) ?_
  rotate_left 1
  · (intro w' hSw; obtain ⟨d0, d1, _, d3⟩ := hSw; go_simp; try with_reducible rfl)
  try simp only [Act.put, List.setIfInBounds_toArray, List.set_cons_zero, List.set_cons_succ]
  have hb2 := (Below.refl w1.heap.size w1).drew.alloc (Nat.le_refl _) (.cells (u8s (List.replicate 32 0)) 24)
  have hn2 := heap_alloc_new w1.drew (.cells (u8s (List.replicate 32 0)) 24)
  refine wpAnyH_ready (rs := [8]) (by decide +kernel) (by simp) ?_
  refine AllReadyH.cons rfl (fun K hK => ?_) AllReadyH.nil
  go_simp
  refine hK.out _ (w1.drew.alloc (.cells (u8s (List.replicate 32 0)) 24)) (HS1.out _ ?_) (fun hHeld => ?_)
  · exact hb2
  clear hK K
  try simp only [Act.put, List.setIfInBounds_toArray, List.set_cons_zero, List.set_cons_succ]
  refine wpAnyH_take (i := 9) (oi := ⟨some 3, _, _, _, _, _⟩) (v := ?_) rfl (by kernel_rfl) (by decide +kernel) (by decide +kernel) (fun _ _ _ h => h) (Or.inl ⟨by rfl, ?_⟩) (by assumption) ?_
  rotate_left 1
  · (intro w' hSw; obtain ⟨d0, d1, _, d3⟩ := hSw; go_simp; try with_reducible rfl)
  try simp only [Act.put, List.setIfInBounds_toArray, List.set_cons_zero, List.set_cons_succ]
  refine wpAnyH_take (i := 10) (oi := ⟨some 4, _, _, _, _, _⟩) (v := ?_) rfl (by kernel_rfl) (by decide +kernel) (by decide +kernel) (fun _ _ _ h => h) (Or.inl ⟨by rfl, ?_⟩) (by assumption) ?_
  rotate_left 1
  · (intro w' hSw; obtain ⟨d0, d1, _, d3⟩ := hSw; go_simp; try with_reducible rfl)
  try simp only [Act.put, List.setIfInBounds_toArray, List.set_cons_zero, List.set_cons_succ]
  refine wpAnyH_ready (rs := [11]) (by decide +kernel) (by simp) ?_
  refine AllReadyH.cons rfl (fun K hK => ?_) AllReadyH.nil
  refine wp_store_row (o := ⟨none, .store _ (.tmp 5) _, _, _, _, _⟩) 24 (.tmp 5) (.tmp 15) rfl w1.heap.size (u8s x0) rfl rfl 24 (u8s (List.replicate 32 0)) hn2 S24.out SE.out (u8s_one _) ?_
  have hb3 := below_setRow hb2 (Nat.le_refl _) (u8s x0)
  have hn3 : ArrB _ w1.heap.size 24 x0 := setRow_heap _ w1.heap.size _ _ _ (0, 0) hn2
  refine hK.out _ (World.setRow (w1.drew.alloc (.cells (u8s (List.replicate 32 0)) 24)) w1.heap.size (u8s x0)) (HS1.out _ hb3) (fun hHeld => ?_)
  clear hK K
  try simp only [Act.put, List.setIfInBounds_toArray, List.set_cons_zero, List.set_cons_succ]
  refine wpAnyH_take (i := 12) (oi := ⟨some 6, _, _, _, _, _⟩) (v := ?_) rfl (by kernel_rfl) (by decide +kernel) (by decide +kernel) (fun _ _ _ h => h) (Or.inl ⟨by rfl, ?_⟩) (by assumption) ?_
  rotate_left 1
  · (intro w' hSw; obtain ⟨d0, d1, _, d3⟩ := hSw; go_simp; try with_reducible rfl)
  try simp only [Act.put, List.setIfInBounds_toArray, List.set_cons_zero, List.set_cons_succ]
  refine wpAnyH_done (by decide +kernel) ?_ _
  refine NoPanic.normal ?_
  generalize hW3 : World.setRow (w1.drew.alloc (.cells (u8s (List.replicate 32 0)) 24)) w1.heap.size (u8s x0) = W3 at *
  have hn3' : ArrB W3 w1.heap.size 24 x0 := hn3
  have HX3 := Lib.hid hn3'
  have HBE3 := Lib.hid (show Below w.heap.size w W3 by rw [HBB.out]; exact HBE1.out.trans (hb3.mono (Nat.le_of_lt HLT1.out)))
  have HGE := Lib.hid (show w.heap.size ≤ w1.heap.size by rw [HBB.out]; exact Nat.le_of_lt HLT1.out)
  clear hW3 hn2 hb2 hn3 hn3' hb3 HS1 HBE1 HLT1 HBB
  generalize w1.heap.size = b5 at *
  by_cases hbig : (1000 : Int) < (len0 : Int) + (len1 : Int)
  · go_wp2_with fail
    go_ret
    exact ⟨rfl, HBE3.out⟩
  have hle : (len0 : Int) + (len1 : Int) ≤ 1000 := by omega
  have HLE := Lib.hid (show len0 + len1 ≤ 1000 by omega)
  clear hbig
  have RMV := Lib.hid (fun (W : World) (hb : Below w.heap.size w W) => rmac_any l0 l1 (.slice a0 len0 cap0) (.slice a1 len1 cap1) W (HB0.out.kept hb) (room_of _ _ _ HM.out.1 (by have := HM.out; omega)) (HB1.out.kept hb) (by rw [HE.out.1]; have := HLE.out; omega) (by rw [HE.out.2]; have := HLE.out; omega))
  go_wp2_with fail
  refine (RMV.out W3 HBE3.out).mono ?_
  rintro e w4 ⟨rfl, hb4⟩
  have HX4 := Lib.hid (HX3.out.below hb4 HX3.out.lt)
  have HBE4 := Lib.hid (HBE3.out.trans (hb4.mono HBE3.out.size))
  clear hb4
  have SH := Lib.hid (size_h32 (macS l0 l1) (macS_length _ _))
  have SM := Lib.hid (show (u8s (List.replicate 32 0)).size = (u8s (macS l0 l1)).size by rw [u8s_size, u8s_size, macS_length]; rfl)
  have SXM := Lib.hid (show (u8s x0).size = (u8s (macS l0 l1)).size by rw [u8s_size, u8s_size, macS_length, HX.out.1])
  go_upto_region 7 with (first
    | (with_reducible refine wpList_store_row (o := ⟨none, .store _ (.tmp 7) _, _, _, _, _⟩) rfl 24 _ _ rfl w4.heap.size (u8s (macS l0 l1)) rfl rfl 24 _ (heap_alloc_new w4 _) SH.out ?c1 (u8s_one _) ?_))
  case c1 => exact SM.out
  generalize hW5 : World.setRow _ w4.heap.size _ = W5
  obtain ⟨r5, z5, b5'⟩ := fresh_row w4 (u8s (List.replicate 32 0)) (u8s (macS l0 l1)) 24 W5 hW5.symm
  clear hW5
  have HY5 := Lib.hid (show ArrB W5 w4.heap.size 24 (macS l0 l1) from r5)
  have HX5 := Lib.hid (HX4.out.below b5' HX4.out.lt)
  have HBE5 := Lib.hid (HBE4.out.trans (b5'.mono HBE4.out.size))
  have HNE := Lib.hid (show b5 < w4.heap.size from HX4.out.lt)
  clear r5 z5 b5' HX4 HBE4 HX3 HBE3 RMV
  generalize w4.heap.size = b7 at *
  cases o0
  · go_upto_region 9 with (fail)
    have HZ := HX5
    have HY := HY5
    have HBV := HBE5
    have HS := Lib.hid (fun (W : World) (hb : Below W5.heap.size W5 W) => show W.rangeAt b7 0 (u8s (macS l0 l1)).toList ∧ W.rangeAt b5 0 (u8s x0).toList ∧ BS W (.slice a1 len1 cap1) l1 from ⟨(HY.out.below hb HY.out.lt).range, (HZ.out.below hb HZ.out.lt).range, HB1.out.kept (HBV.out.trans (hb.mono HBV.out.size))⟩)
    have KV := Lib.hid (fun (W : World) (hb : Below W5.heap.size W5 W) => HK.out.below (HBV.out.trans (hb.mono HBV.out.size)) HK.out.pos)
    have BV0 := Lib.hid (fun (W : World) (hb : Below W5.heap.size W5 W) => HB0.out.kept (HBV.out.trans (hb.mono HBV.out.size)))
    have BV1 := Lib.hid (fun (W : World) (hb : Below W5.heap.size W5 W) => HB1.out.kept (HBV.out.trans (hb.mono HBV.out.size)))
    have R0 := Lib.hid (room_of a0 _ _ HM.out.1 (by have := HM.out; omega))
    have R1 := Lib.hid (room_of a1 _ _ HM.out.2.1 (by have := HM.out; omega))
    obtain ⟨d, hd⟩ : ∃ d, decide (macS l0 l1 = x0) = d := ⟨_, rfl⟩
    have hd2 : decide (x0 = macS l0 l1) = d := (decide_eq_decide.2 ⟨Eq.symm, Eq.symm⟩).trans hd
    have heX := eq_hash_same (macS l0 l1) (macS_length _ _) (macS_byt _ _)
    have heD := eq_hash_same (macS l0 (txt (strOfNums l1))) (macS_length _ _) (macS_byt _ _)
    have heZ := eq_hash x0 (macS l0 l1) HX.out.1 (macS_length _ _) HX.out.2 (macS_byt _ _)
    rw [hd2] at heZ
    have HL := Lib.hid (show l0.length ≤ 900000 ∧ l1.length ≤ 900000 by rw [HE.out.1, HE.out.2]; have := HLE.out; omega)
    have HSZ := Lib.hid (show (strOfNums l1).size ≤ 900000 by rw [strOfNums_size]; exact HL.out.2)
    have MV := Lib.hid (fun (W : World) (hb : Below W5.heap.size W5 W) => mac_any l0 l1 _ _ W (KV.out W hb) (BV0.out W hb) R0.out (BV1.out W hb) R1.out (by have := HL.out; omega) (by have := HL.out; omega))
    have FV := Lib.hid (fun (W : World) (hb : Below W5.heap.size W5 W) => show Calls Tryd.prog 26 #[.slice a0 len0 cap0, .slice a1 len1 cap1, .agg (u8s x0)] W (fun e w' => e = .returned (.bool d) ∧ Below W.heap.size W w') from by
      rw [← hd]
      exact fits_any l0 l1 x0 _ _ W (KV.out W hb) (BV0.out W hb) R0.out (BV1.out W hb) R1.out (by have := HL.out; omega) (by have := HL.out; omega) HX.out.1 HX.out.2)
    have DV := Lib.hid (fun (W : World) (hb : Below W5.heap.size W5 W) => derive_any l0 (.slice a0 len0 cap0) (strOfNums l1) W (KV.out W hb) (BV0.out W hb) R0.out (by have := HL.out; omega) (by have := HSZ.out; omega))
    have RDV := Lib.hid (fun (W : World) (hb : Below W5.heap.size W5 W) => rderive_any l0 (.slice a0 len0 cap0) (strOfNums l1) W (BV0.out W hb) R0.out HL.out.1 HSZ.out)
    have SZ := Lib.hid (size_h32 x0 HX.out.1)
    clear hd hd2
    go_wp2_with fail
    refine wp_region_noPanic ?_
    refine wp_region_held_drew (S := fun W => W.rangeAt b7 0 (u8s (macS l0 l1)).toList ∧ W.rangeAt b5 0 (u8s x0).toList ∧ BS W (.slice a1 len1 cap1) l1) (by kernel_rfl) (HS.out _ (Below.refl _ W5).drew) (fun hHeld => ?_)
    refine wpAnyH_take (i := 0) (oi := ⟨some 29, _, _, _, _, _⟩) (v := ?_) rfl (by kernel_rfl) (by decide +kernel) (by decide +kernel) (fun _ _ _ h => h) (Or.inl ⟨by rfl, ?_⟩) (by assumption) ?_
    rotate_left 1
    · (intro w' hSw; go_simp; try with_reducible rfl)
    try simp only [Act.put, List.setIfInBounds_toArray, List.set_cons_zero, List.set_cons_succ]
    refine wpAnyH_take (i := 1) (oi := ⟨some 30, _, _, _, _, _⟩) (v := ?_) rfl (by kernel_rfl) (by decide +kernel) (by decide +kernel) (fun _ _ _ h => h) (Or.inl ⟨by rfl, ?_⟩) (by assumption) ?_
    rotate_left 1
    · (intro w' hSw; go_simp; try with_reducible rfl)
    try simp only [Act.put, List.setIfInBounds_toArray, List.set_cons_zero, List.set_cons_succ]
    refine wpAnyH_take (i := 3) (oi := ⟨some 32, _, _, _, _, _⟩) rfl (by kernel_rfl) (by decide +kernel) (by decide +kernel) (fun _ _ _ h => h) (yieldsIf_load_mid (by rfl) _ _ rfl (b7) 0 rfl (u8s (macS l0 l1)).toList _ (fun w' h => h.1) Tryd.underlying24 rfl SH.out) (by assumption) ?_
    try simp only [Act.put, List.setIfInBounds_toArray, List.set_cons_zero, List.set_cons_succ, Array.toArray_toList]
    refine wpAnyH_ready (rs := [2]) (by decide +kernel) (by simp) ?_
    refine AllReadyH.cons rfl (fun K hK => ?_) AllReadyH.nil
    go_simp
    go_at_call 25
    refine (MV.out W5.drew (Below.refl _ W5).drew).mono ?_
    rintro e w31 ⟨rfl, hb31⟩
    have HB31 := Lib.hid ((Below.refl W5.heap.size W5).drew.trans hb31)
    clear hb31
    go_wp2_with fail
    refine hK.out _ _ (HS.out _ HB31.out) (fun hHeld => ?_)
    clear hK K
    try simp only [Act.put, List.setIfInBounds_toArray, List.set_cons_zero, List.set_cons_succ]
    refine wpAnyH_take (i := 4) (oi := ⟨some 33, _, _, _, _, _⟩) (v := ?_) rfl (by kernel_rfl) (by decide +kernel) (by decide +kernel) (fun _ _ _ h => h) (Or.inl ⟨by rfl, ?_⟩) (by assumption) ?_
    rotate_left 1
    · (intro w' hSw; go_simp; try with_reducible rfl)
    try simp only [Act.put, List.setIfInBounds_toArray, List.set_cons_zero, List.set_cons_succ]
    refine wpAnyH_take (i := 5) (oi := ⟨some 34, _, _, _, _, _⟩) (v := ?_) rfl (by kernel_rfl) (by decide +kernel) (by decide +kernel) (fun _ _ _ h => h) (Or.inl ⟨by rfl, ?_⟩) (by assumption) ?_
    rotate_left 1
    · (intro w' hSw; go_simp; try with_reducible rfl)
    try simp only [Act.put, List.setIfInBounds_toArray, List.set_cons_zero, List.set_cons_succ]
    refine wpAnyH_take (i := 6) (oi := ⟨some 35, _, _, _, _, _⟩) (v := ?_) rfl (by kernel_rfl) (by decide +kernel) (by decide +kernel) (fun _ _ _ h => h) (Or.inl ⟨by rfl, ?_⟩) (by assumption) ?_
    rotate_left 1
    · (intro w' hSw; go_simp; try with_reducible rfl)
    try simp only [Act.put, List.setIfInBounds_toArray, List.set_cons_zero, List.set_cons_succ]
    refine wpAnyH_take (i := 7) (oi := ⟨some 36, _, _, _, _, _⟩) (v := ?_) rfl (by kernel_rfl) (by decide +kernel) (by decide +kernel) (fun _ _ _ h => h) (Or.inl ⟨by rfl, ?_⟩) (by assumption) ?_
    rotate_left 1
    · (intro w' hSw; go_simp; try with_reducible rfl)
    try simp only [Act.put, List.setIfInBounds_toArray, List.set_cons_zero, List.set_cons_succ]
    refine wpAnyH_take (i := 8) (oi := ⟨some 37, _, _, _, _, _⟩) rfl (by kernel_rfl) (by decide +kernel) (by decide +kernel) (fun _ _ _ h => h) (yieldsIf_load_mid (by rfl) _ _ rfl (b5) 0 rfl (u8s x0).toList _ (fun w' h => h.2.1) Tryd.underlying24 rfl SZ.out) (by assumption) ?_
    try simp only [Act.put, List.setIfInBounds_toArray, List.set_cons_zero, List.set_cons_succ, Array.toArray_toList]
    refine wpAnyH_take (i := 10) (oi := ⟨some 39, _, _, _, _, _⟩) rfl (by kernel_rfl) (by decide +kernel) (by decide +kernel) (fun _ _ _ h => h) (yieldsIf_load_mid (by rfl) _ _ rfl (b5) 0 rfl (u8s x0).toList _ (fun w' h => h.2.1) Tryd.underlying24 rfl SZ.out) (by assumption) ?_
    try simp only [Act.put, List.setIfInBounds_toArray, List.set_cons_zero, List.set_cons_succ, Array.toArray_toList]
    refine wpAnyH_take (i := 11) (oi := ⟨some 40, _, _, _, _, _⟩) rfl (by kernel_rfl) (by decide +kernel) (by decide +kernel) (fun _ _ _ h => h) (yieldsIf_load_mid (by rfl) _ _ rfl (b7) 0 rfl (u8s (macS l0 l1)).toList _ (fun w' h => h.1) Tryd.underlying24 rfl SH.out) (by assumption) ?_
    try simp only [Act.put, List.setIfInBounds_toArray, List.set_cons_zero, List.set_cons_succ, Array.toArray_toList]
    refine wpAnyH_take (i := 12) (oi := ⟨some 41, _, _, _, _, _⟩) (v := ?_) rfl (by kernel_rfl) (by decide +kernel) (by decide +kernel) (fun _ _ _ h => h) (Or.inl ⟨by rfl, ?_⟩) (by assumption) ?_
    rotate_left 1
    · (intro w' hSw; go_simp; try with_reducible rfl)
    try simp only [Act.put, List.setIfInBounds_toArray, List.set_cons_zero, List.set_cons_succ]
    refine wpAnyH_ready (rs := [9]) (by decide +kernel) (by simp) ?_
    refine AllReadyH.cons rfl (fun K hK => ?_) AllReadyH.nil
    go_simp
    go_at_call 26
    refine (FV.out w31 HB31.out).mono ?_
    rintro e w38 ⟨rfl, hb38⟩
    have HB38 := Lib.hid (HB31.out.trans (hb38.mono HB31.out.size))
    clear hb38
    go_wp2_with fail
    refine hK.out _ _ (HS.out _ HB38.out) (fun hHeld => ?_)
    clear hK K
    try simp only [Act.put, List.setIfInBounds_toArray, List.set_cons_zero, List.set_cons_succ]
    refine wpAnyH_take (i := 13) (oi := ⟨some 42, _, _, _, _, _⟩) (v := ?_) rfl (by kernel_rfl) (by decide +kernel) (by decide +kernel) (fun _ _ _ h => h) (Or.inl ⟨by rfl, ?_⟩) (by assumption) ?_
    rotate_left 1
    · (intro w' hSw; go_simp; try with_reducible rfl)
    try simp only [Act.put, List.setIfInBounds_toArray, List.set_cons_zero, List.set_cons_succ]
    refine wpAnyH_take (i := 14) (oi := ⟨some 43, _, _, _, _, _⟩) (v := ?_) rfl (by kernel_rfl) (by decide +kernel) (by decide +kernel) (fun _ _ _ h => h) (Or.inl ⟨by rfl, ?_⟩) (by assumption) ?_
    rotate_left 1
    · (intro w' hSw; go_simp; try with_reducible rfl)
    try simp only [Act.put, List.setIfInBounds_toArray, List.set_cons_zero, List.set_cons_succ]
    refine wpAnyH_take (i := 15) (oi := ⟨some 44, _, _, _, _, _⟩) (v := ?_) rfl (by kernel_rfl) (by decide +kernel) (by decide +kernel) (fun _ _ _ h => h) (Or.inl ⟨by rfl, ?_⟩) (by assumption) ?_
    rotate_left 1
    · (intro w' hSw; go_simp; try with_reducible rfl)
    try simp only [Act.put, List.setIfInBounds_toArray, List.set_cons_zero, List.set_cons_succ]
    refine wpAnyH_take (i := 16) (oi := ⟨some 45, _, _, _, _, _⟩) (v := ?_) rfl (by kernel_rfl) (by decide +kernel) (by decide +kernel) (fun _ _ _ h => h) (Or.inl ⟨by rfl, ?_⟩) (by assumption) ?_
    rotate_left 1
    · (intro w' hSw; go_simp; try with_reducible rfl)
    try simp only [Act.put, List.setIfInBounds_toArray, List.set_cons_zero, List.set_cons_succ]
    refine wpAnyH_take (i := 17) (oi := ⟨some 46, _, _, _, _, _⟩) (v := ?_) rfl (by kernel_rfl) (by decide +kernel) (by decide +kernel) (fun _ _ _ h => h) (Or.inl ⟨by rfl, ?_⟩) (by assumption) ?_
    rotate_left 1
    · (intro w' hSw; go_simp; try with_reducible rfl)
    try simp only [Act.put, List.setIfInBounds_toArray, List.set_cons_zero, List.set_cons_succ]
    refine wpAnyH_take (i := 18) (oi := ⟨some 47, _, _, _, _, _⟩) (v := ?_) rfl (by kernel_rfl) (by decide +kernel) (by decide +kernel) (fun _ _ _ h => h) (Or.inl ⟨by rfl, ?_⟩) (by assumption) ?_
    rotate_left 1
    · (intro w' hSw; have hcv := conv_BS hSw.2.2; go_simp; try with_reducible rfl)
    try simp only [Act.put, List.setIfInBounds_toArray, List.set_cons_zero, List.set_cons_succ]
    refine wpAnyH_take (i := 20) (oi := ⟨some 49, _, _, _, _, _⟩) (v := ?_) rfl (by kernel_rfl) (by decide +kernel) (by decide +kernel) (fun _ _ _ h => h) (Or.inl ⟨by rfl, ?_⟩) (by assumption) ?_
    rotate_left 1
    · (intro w' hSw; go_simp; try with_reducible rfl)
    try simp only [Act.put, List.setIfInBounds_toArray, List.set_cons_zero, List.set_cons_succ]
    refine wpAnyH_take (i := 21) (oi := ⟨some 50, _, _, _, _, _⟩) (v := ?_) rfl (by kernel_rfl) (by decide +kernel) (by decide +kernel) (fun _ _ _ h => h) (Or.inl ⟨by rfl, ?_⟩) (by assumption) ?_
    rotate_left 1
    · (intro w' hSw; go_simp; try with_reducible rfl)
    try simp only [Act.put, List.setIfInBounds_toArray, List.set_cons_zero, List.set_cons_succ]
    refine wpAnyH_take (i := 22) (oi := ⟨some 51, _, _, _, _, _⟩) (v := ?_) rfl (by kernel_rfl) (by decide +kernel) (by decide +kernel) (fun _ _ _ h => h) (Or.inl ⟨by rfl, ?_⟩) (by assumption) ?_
    rotate_left 1
    · (intro w' hSw; have hcv := conv_BS hSw.2.2; go_simp; try with_reducible rfl)
    try simp only [Act.put, List.setIfInBounds_toArray, List.set_cons_zero, List.set_cons_succ]
    refine wpAnyH_ready (rs := [19]) (by decide +kernel) (by simp) ?_
    refine AllReadyH.cons rfl (fun K hK => ?_) AllReadyH.nil
    go_simp
    go_at_call 27
    refine (DV.out w38 HB38.out).mono ?_
    rintro e w48 ⟨rfl, hb48⟩
    have HB48 := Lib.hid (HB38.out.trans (hb48.mono HB38.out.size))
    clear hb48
    go_wp2_with fail
    refine hK.out _ _ (HS.out _ HB48.out) (fun hHeld => ?_)
    clear hK K
    try simp only [Act.put, List.setIfInBounds_toArray, List.set_cons_zero, List.set_cons_succ]
    refine wpAnyH_ready (rs := [23]) (by decide +kernel) (by simp) ?_
    refine AllReadyH.cons rfl (fun K hK => ?_) AllReadyH.nil
    go_simp
    go_at_call 28
    refine (RDV.out w48 HB48.out).mono ?_
    rintro e w52 ⟨rfl, hb52⟩
    have HB52 := Lib.hid (HB48.out.trans (hb52.mono HB48.out.size))
    clear hb52
    go_wp2_with fail
    refine hK.out _ _ (HS.out _ HB52.out) (fun hHeld => ?_)
    clear hK K
    try simp only [Act.put, List.setIfInBounds_toArray, List.set_cons_zero, List.set_cons_succ]
    refine wpAnyH_take (i := 24) (oi := ⟨some 53, _, _, _, _, _⟩) (v := ?_) rfl (by kernel_rfl) (by decide +kernel) (by decide +kernel) (fun _ _ _ h => h) (Or.inl ⟨by rfl, ?_⟩) (by assumption) ?_
    rotate_left 1
    · (intro w' hSw; go_simp; try with_reducible rfl)
    try simp only [Act.put, List.setIfInBounds_toArray, List.set_cons_zero, List.set_cons_succ]
    refine wpAnyH_take (i := 25) (oi := ⟨some 54, _, _, _, _, _⟩) (v := ?_) rfl (by kernel_rfl) (by decide +kernel) (by decide +kernel) (fun _ _ _ h => h) (Or.inl ⟨by rfl, ?_⟩) (by assumption) ?_
    rotate_left 1
    · (intro w' hSw; go_simp; try with_reducible rfl)
    try simp only [Act.put, List.setIfInBounds_toArray, List.set_cons_zero, List.set_cons_succ]
    refine wpAnyH_take (i := 26) (oi := ⟨some 2, _, _, _, _, _⟩) (v := ?_) rfl (by kernel_rfl) (by decide +kernel) (by decide +kernel) (fun _ _ _ h => h) (Or.inl ⟨by rfl, ?_⟩) (by assumption) ?_
    rotate_left 1
    · (intro w' hSw; go_simp; try with_reducible rfl)
    try simp only [Act.put, List.setIfInBounds_toArray, List.set_cons_zero, List.set_cons_succ]
    refine wpAnyH_done (by decide +kernel) ?_ _
    refine NoPanic.normal ?_
    go_wp2_with fail
    go_ret
    exact ⟨rfl, HBV.out.trans (HB52.out.mono HBV.out.size)⟩
  · have HY5' := Lib.hid (show W5.heap[b7]? = some (.cells (u8s (macS l0 l1)) 24 (0, 0)) from HY5.out)
    have HX5' := Lib.hid (show W5.heap[b5]? = some (.cells (u8s x0) 24 (0, 0)) from HX5.out)
    go_upto_region 9 with (first
      | (with_reducible refine wpList_load_row (o := ⟨some 28, _, _, _, _, _⟩) rfl 24 _ rfl b7 rfl 24 (u8s (macS l0 l1)) (0, 0) _ HY5'.out Tryd.underlying24 rfl SH.out ?_)
      | (with_reducible refine wpList_store_row (o := ⟨none, .store _ (.tmp 5) _, _, _, _, _⟩) rfl 24 _ _ rfl b5 (u8s (macS l0 l1)) rfl rfl 24 (u8s x0) HX5'.out SH.out ?c2 (u8s_one _) ?_))
    case c2 => exact SXM.out
    generalize hW6 : World.setRow W5 b5 _ = W6
    have r6 : ArrB W6 b5 24 (macS l0 l1) := by
      rw [← hW6]
      exact setRow_heap _ b5 _ _ _ (0, 0) HX5.out
    have s6 : ArrB W6 b7 24 (macS l0 l1) := by
      rw [← hW6]
      unfold ArrB
      rw [setRow_other _ _ _ _ (by have := HNE.out; omega)]
      exact HY5.out
    have b6 : Below w.heap.size w W6 := by
      rw [← hW6]
      exact below_setRow HBE5.out HGE.out _
    clear hW6
    have HX6 := Lib.hid r6
    have HY6 := Lib.hid s6
    have HBE6 := Lib.hid b6
    clear r6 s6 b6
    have HZ := HX6
    have HY := HY6
    have HBV := HBE6
    have HS := Lib.hid (fun (W : World) (hb : Below W6.heap.size W6 W) => show W.rangeAt b7 0 (u8s (macS l0 l1)).toList ∧ W.rangeAt b5 0 (u8s (macS l0 l1)).toList ∧ BS W (.slice a1 len1 cap1) l1 from ⟨(HY.out.below hb HY.out.lt).range, (HZ.out.below hb HZ.out.lt).range, HB1.out.kept (HBV.out.trans (hb.mono HBV.out.size))⟩)
    have KV := Lib.hid (fun (W : World) (hb : Below W6.heap.size W6 W) => HK.out.below (HBV.out.trans (hb.mono HBV.out.size)) HK.out.pos)
    have BV0 := Lib.hid (fun (W : World) (hb : Below W6.heap.size W6 W) => HB0.out.kept (HBV.out.trans (hb.mono HBV.out.size)))
    have BV1 := Lib.hid (fun (W : World) (hb : Below W6.heap.size W6 W) => HB1.out.kept (HBV.out.trans (hb.mono HBV.out.size)))
    have R0 := Lib.hid (room_of a0 _ _ HM.out.1 (by have := HM.out; omega))
    have R1 := Lib.hid (room_of a1 _ _ HM.out.2.1 (by have := HM.out; omega))
    have hd : decide (macS l0 l1 = macS l0 l1) = true := by simp
    have heX := eq_hash_same (macS l0 l1) (macS_length _ _) (macS_byt _ _)
    have heD := eq_hash_same (macS l0 (txt (strOfNums l1))) (macS_length _ _) (macS_byt _ _)
    have HL := Lib.hid (show l0.length ≤ 900000 ∧ l1.length ≤ 900000 by rw [HE.out.1, HE.out.2]; have := HLE.out; omega)
    have HSZ := Lib.hid (show (strOfNums l1).size ≤ 900000 by rw [strOfNums_size]; exact HL.out.2)
    have MV := Lib.hid (fun (W : World) (hb : Below W6.heap.size W6 W) => mac_any l0 l1 _ _ W (KV.out W hb) (BV0.out W hb) R0.out (BV1.out W hb) R1.out (by have := HL.out; omega) (by have := HL.out; omega))
    have FV := Lib.hid (fun (W : World) (hb : Below W6.heap.size W6 W) => show Calls Tryd.prog 26 #[.slice a0 len0 cap0, .slice a1 len1 cap1, .agg (u8s (macS l0 l1))] W (fun e w' => e = .returned (.bool true) ∧ Below W.heap.size W w') from by
      rw [← hd]
      exact fits_any l0 l1 (macS l0 l1) _ _ W (KV.out W hb) (BV0.out W hb) R0.out (BV1.out W hb) R1.out (by have := HL.out; omega) (by have := HL.out; omega) (macS_length l0 l1) (macS_byt l0 l1))
    have DV := Lib.hid (fun (W : World) (hb : Below W6.heap.size W6 W) => derive_any l0 (.slice a0 len0 cap0) (strOfNums l1) W (KV.out W hb) (BV0.out W hb) R0.out (by have := HL.out; omega) (by have := HSZ.out; omega))
    have RDV := Lib.hid (fun (W : World) (hb : Below W6.heap.size W6 W) => rderive_any l0 (.slice a0 len0 cap0) (strOfNums l1) W (BV0.out W hb) R0.out HL.out.1 HSZ.out)
    have SZ := Lib.hid (size_h32 (macS l0 l1) (macS_length l0 l1))
    clear hd
    go_wp2_with fail
    refine wp_region_noPanic ?_
    refine wp_region_held_drew (S := fun W => W.rangeAt b7 0 (u8s (macS l0 l1)).toList ∧ W.rangeAt b5 0 (u8s (macS l0 l1)).toList ∧ BS W (.slice a1 len1 cap1) l1) (by kernel_rfl) (HS.out _ (Below.refl _ W6).drew) (fun hHeld => ?_)
    refine wpAnyH_take (i := 0) (oi := ⟨some 29, _, _, _, _, _⟩) (v := ?_) rfl (by kernel_rfl) (by decide +kernel) (by decide +kernel) (fun _ _ _ h => h) (Or.inl ⟨by rfl, ?_⟩) (by assumption) ?_
    rotate_left 1
    · (intro w' hSw; go_simp; try with_reducible rfl)
    try simp only [Act.put, List.setIfInBounds_toArray, List.set_cons_zero, List.set_cons_succ]
    refine wpAnyH_take (i := 1) (oi := ⟨some 30, _, _, _, _, _⟩) (v := ?_) rfl (by kernel_rfl) (by decide +kernel) (by decide +kernel) (fun _ _ _ h => h) (Or.inl ⟨by rfl, ?_⟩) (by assumption) ?_
    rotate_left 1
    · (intro w' hSw; go_simp; try with_reducible rfl)
    try simp only [Act.put, List.setIfInBounds_toArray, List.set_cons_zero, List.set_cons_succ]
    refine wpAnyH_take (i := 3) (oi := ⟨some 32, _, _, _, _, _⟩) rfl (by kernel_rfl) (by decide +kernel) (by decide +kernel) (fun _ _ _ h => h) (yieldsIf_load_mid (by rfl) _ _ rfl (b7) 0 rfl (u8s (macS l0 l1)).toList _ (fun w' h => h.1) Tryd.underlying24 rfl SH.out) (by assumption) ?_
    try simp only [Act.put, List.setIfInBounds_toArray, List.set_cons_zero, List.set_cons_succ, Array.toArray_toList]
    refine wpAnyH_ready (rs := [2]) (by decide +kernel) (by simp) ?_
    refine AllReadyH.cons rfl (fun K hK => ?_) AllReadyH.nil
    go_simp
    go_at_call 25
    refine (MV.out W6.drew (Below.refl _ W6).drew).mono ?_
    rintro e w31 ⟨rfl, hb31⟩
    have HB31 := Lib.hid ((Below.refl W6.heap.size W6).drew.trans hb31)
    clear hb31
    go_wp2_with fail
    refine hK.out _ _ (HS.out _ HB31.out) (fun hHeld => ?_)
    clear hK K
    try simp only [Act.put, List.setIfInBounds_toArray, List.set_cons_zero, List.set_cons_succ]
    refine wpAnyH_take (i := 4) (oi := ⟨some 33, _, _, _, _, _⟩) (v := ?_) rfl (by kernel_rfl) (by decide +kernel) (by decide +kernel) (fun _ _ _ h => h) (Or.inl ⟨by rfl, ?_⟩) (by assumption) ?_
    rotate_left 1
    · (intro w' hSw; go_simp; try with_reducible rfl)
    try simp only [Act.put, List.setIfInBounds_toArray, List.set_cons_zero, List.set_cons_succ]
    refine wpAnyH_take (i := 5) (oi := ⟨some 34, _, _, _, _, _⟩) (v := ?_) rfl (by kernel_rfl) (by decide +kernel) (by decide +kernel) (fun _ _ _ h => h) (Or.inl ⟨by rfl, ?_⟩) (by assumption) ?_
    rotate_left 1
    · (intro w' hSw; go_simp; try with_reducible rfl)
    try simp only [Act.put, List.setIfInBounds_toArray, List.set_cons_zero, List.set_cons_succ]
    refine wpAnyH_take (i := 6) (oi := ⟨some 35, _, _, _, _, _⟩) (v := ?_) rfl (by kernel_rfl) (by decide +kernel) (by decide +kernel) (fun _ _ _ h => h) (Or.inl ⟨by rfl, ?_⟩) (by assumption) ?_
    rotate_left 1
    · (intro w' hSw; go_simp; try with_reducible rfl)
    try simp only [Act.put, List.setIfInBounds_toArray, List.set_cons_zero, List.set_cons_succ]
    refine wpAnyH_take (i := 7) (oi := ⟨some 36, _, _, _, _, _⟩) (v := ?_) rfl (by kernel_rfl) (by decide +kernel) (by decide +kernel) (fun _ _ _ h => h) (Or.inl ⟨by rfl, ?_⟩) (by assumption) ?_
    rotate_left 1
    · (intro w' hSw; go_simp; try with_reducible rfl)
    try simp only [Act.put, List.setIfInBounds_toArray, List.set_cons_zero, List.set_cons_succ]
    refine wpAnyH_take (i := 8) (oi := ⟨some 37, _, _, _, _, _⟩) rfl (by kernel_rfl) (by decide +kernel) (by decide +kernel) (fun _ _ _ h => h) (yieldsIf_load_mid (by rfl) _ _ rfl (b5) 0 rfl (u8s (macS l0 l1)).toList _ (fun w' h => h.2.1) Tryd.underlying24 rfl SZ.out) (by assumption) ?_
    try simp only [Act.put, List.setIfInBounds_toArray, List.set_cons_zero, List.set_cons_succ, Array.toArray_toList]
    refine wpAnyH_take (i := 10) (oi := ⟨some 39, _, _, _, _, _⟩) rfl (by kernel_rfl) (by decide +kernel) (by decide +kernel) (fun _ _ _ h => h) (yieldsIf_load_mid (by rfl) _ _ rfl (b5) 0 rfl (u8s (macS l0 l1)).toList _ (fun w' h => h.2.1) Tryd.underlying24 rfl SZ.out) (by assumption) ?_
    try simp only [Act.put, List.setIfInBounds_toArray, List.set_cons_zero, List.set_cons_succ, Array.toArray_toList]
    refine wpAnyH_take (i := 11) (oi := ⟨some 40, _, _, _, _, _⟩) rfl (by kernel_rfl) (by decide +kernel) (by decide +kernel) (fun _ _ _ h => h) (yieldsIf_load_mid (by rfl) _ _ rfl (b7) 0 rfl (u8s (macS l0 l1)).toList _ (fun w' h => h.1) Tryd.underlying24 rfl SH.out) (by assumption) ?_
    try simp only [Act.put, List.setIfInBounds_toArray, List.set_cons_zero, List.set_cons_succ, Array.toArray_toList]
    refine wpAnyH_take (i := 12) (oi := ⟨some 41, _, _, _, _, _⟩) (v := ?_) rfl (by kernel_rfl) (by decide +kernel) (by decide +kernel) (fun _ _ _ h => h) (Or.inl ⟨by rfl, ?_⟩) (by assumption) ?_
    rotate_left 1
    · (intro w' hSw; go_simp; try with_reducible rfl)
    try simp only [Act.put, List.setIfInBounds_toArray, List.set_cons_zero, List.set_cons_succ]
    refine wpAnyH_ready (rs := [9]) (by decide +kernel) (by simp) ?_
    refine AllReadyH.cons rfl (fun K hK => ?_) AllReadyH.nil
    go_simp
    go_at_call 26
    refine (FV.out w31 HB31.out).mono ?_
    rintro e w38 ⟨rfl, hb38⟩
    have HB38 := Lib.hid (HB31.out.trans (hb38.mono HB31.out.size))
    clear hb38
    go_wp2_with fail
    refine hK.out _ _ (HS.out _ HB38.out) (fun hHeld => ?_)
    clear hK K
    try simp only [Act.put, List.setIfInBounds_toArray, List.set_cons_zero, List.set_cons_succ]
    refine wpAnyH_take (i := 13) (oi := ⟨some 42, _, _, _, _, _⟩) (v := ?_) rfl (by kernel_rfl) (by decide +kernel) (by decide +kernel) (fun _ _ _ h => h) (Or.inl ⟨by rfl, ?_⟩) (by assumption) ?_
    rotate_left 1
    · (intro w' hSw; go_simp; try with_reducible rfl)
    try simp only [Act.put, List.setIfInBounds_toArray, List.set_cons_zero, List.set_cons_succ]
    refine wpAnyH_take (i := 14) (oi := ⟨some 43, _, _, _, _, _⟩) (v := ?_) rfl (by kernel_rfl) (by decide +kernel) (by decide +kernel) (fun _ _ _ h => h) (Or.inl ⟨by rfl, ?_⟩) (by assumption) ?_
    rotate_left 1
    · (intro w' hSw; go_simp; try with_reducible rfl)
    try simp only [Act.put, List.setIfInBounds_toArray, List.set_cons_zero, List.set_cons_succ]
    refine wpAnyH_take (i := 15) (oi := ⟨some 44, _, _, _, _, _⟩) (v := ?_) rfl (by kernel_rfl) (by decide +kernel) (by decide +kernel) (fun _ _ _ h => h) (Or.inl ⟨by rfl, ?_⟩) (by assumption) ?_
    rotate_left 1
    · (intro w' hSw; go_simp; try with_reducible rfl)
    try simp only [Act.put, List.setIfInBounds_toArray, List.set_cons_zero, List.set_cons_succ]
    refine wpAnyH_take (i := 16) (oi := ⟨some 45, _, _, _, _, _⟩) (v := ?_) rfl (by kernel_rfl) (by decide +kernel) (by decide +kernel) (fun _ _ _ h => h) (Or.inl ⟨by rfl, ?_⟩) (by assumption) ?_
    rotate_left 1
    · (intro w' hSw; go_simp; try with_reducible rfl)
    try simp only [Act.put, List.setIfInBounds_toArray, List.set_cons_zero, List.set_cons_succ]
    refine wpAnyH_take (i := 17) (oi := ⟨some 46, _, _, _, _, _⟩) (v := ?_) rfl (by kernel_rfl) (by decide +kernel) (by decide +kernel) (fun _ _ _ h => h) (Or.inl ⟨by rfl, ?_⟩) (by assumption) ?_
    rotate_left 1
    · (intro w' hSw; go_simp; try with_reducible rfl)
    try simp only [Act.put, List.setIfInBounds_toArray, List.set_cons_zero, List.set_cons_succ]
    refine wpAnyH_take (i := 18) (oi := ⟨some 47, _, _, _, _, _⟩) (v := ?_) rfl (by kernel_rfl) (by decide +kernel) (by decide +kernel) (fun _ _ _ h => h) (Or.inl ⟨by rfl, ?_⟩) (by assumption) ?_
    rotate_left 1
    · (intro w' hSw; have hcv := conv_BS hSw.2.2; go_simp; try with_reducible rfl)
    try simp only [Act.put, List.setIfInBounds_toArray, List.set_cons_zero, List.set_cons_succ]
    refine wpAnyH_take (i := 20) (oi := ⟨some 49, _, _, _, _, _⟩) (v := ?_) rfl (by kernel_rfl) (by decide +kernel) (by decide +kernel) (fun _ _ _ h => h) (Or.inl ⟨by rfl, ?_⟩) (by assumption) ?_
    rotate_left 1
    · (intro w' hSw; go_simp; try with_reducible rfl)
    try simp only [Act.put, List.setIfInBounds_toArray, List.set_cons_zero, List.set_cons_succ]
    refine wpAnyH_take (i := 21) (oi := ⟨some 50, _, _, _, _, _⟩) (v := ?_) rfl (by kernel_rfl) (by decide +kernel) (by decide +kernel) (fun _ _ _ h => h) (Or.inl ⟨by rfl, ?_⟩) (by assumption) ?_
    rotate_left 1
    · (intro w' hSw; go_simp; try with_reducible rfl)
    try simp only [Act.put, List.setIfInBounds_toArray, List.set_cons_zero, List.set_cons_succ]
    refine wpAnyH_take (i := 22) (oi := ⟨some 51, _, _, _, _, _⟩) (v := ?_) rfl (by kernel_rfl) (by decide +kernel) (by decide +kernel) (fun _ _ _ h => h) (Or.inl ⟨by rfl, ?_⟩) (by assumption) ?_
    rotate_left 1
    · (intro w' hSw; have hcv := conv_BS hSw.2.2; go_simp; try with_reducible rfl)
    try simp only [Act.put, List.setIfInBounds_toArray, List.set_cons_zero, List.set_cons_succ]
    refine wpAnyH_ready (rs := [19]) (by decide +kernel) (by simp) ?_
    refine AllReadyH.cons rfl (fun K hK => ?_) AllReadyH.nil
    go_simp
    go_at_call 27
    refine (DV.out w38 HB38.out).mono ?_
    rintro e w48 ⟨rfl, hb48⟩
    have HB48 := Lib.hid (HB38.out.trans (hb48.mono HB38.out.size))
    clear hb48
    go_wp2_with fail
    refine hK.out _ _ (HS.out _ HB48.out) (fun hHeld => ?_)
    clear hK K
    try simp only [Act.put, List.setIfInBounds_toArray, List.set_cons_zero, List.set_cons_succ]
    refine wpAnyH_ready (rs := [23]) (by decide +kernel) (by simp) ?_
    refine AllReadyH.cons rfl (fun K hK => ?_) AllReadyH.nil
    go_simp
    go_at_call 28
    refine (RDV.out w48 HB48.out).mono ?_
    rintro e w52 ⟨rfl, hb52⟩
    have HB52 := Lib.hid (HB48.out.trans (hb52.mono HB48.out.size))
    clear hb52
    go_wp2_with fail
    refine hK.out _ _ (HS.out _ HB52.out) (fun hHeld => ?_)
    clear hK K
    try simp only [Act.put, List.setIfInBounds_toArray, List.set_cons_zero, List.set_cons_succ]
    refine wpAnyH_take (i := 24) (oi := ⟨some 53, _, _, _, _, _⟩) (v := ?_) rfl (by kernel_rfl) (by decide +kernel) (by decide +kernel) (fun _ _ _ h => h) (Or.inl ⟨by rfl, ?_⟩) (by assumption) ?_
    rotate_left 1
    · (intro w' hSw; go_simp; try with_reducible rfl)
    try simp only [Act.put, List.setIfInBounds_toArray, List.set_cons_zero, List.set_cons_succ]
    refine wpAnyH_take (i := 25) (oi := ⟨some 54, _, _, _, _, _⟩) (v := ?_) rfl (by kernel_rfl) (by decide +kernel) (by decide +kernel) (fun _ _ _ h => h) (Or.inl ⟨by rfl, ?_⟩) (by assumption) ?_
    rotate_left 1
    · (intro w' hSw; go_simp; try with_reducible rfl)
    try simp only [Act.put, List.setIfInBounds_toArray, List.set_cons_zero, List.set_cons_succ]
    refine wpAnyH_take (i := 26) (oi := ⟨some 2, _, _, _, _, _⟩) (v := ?_) rfl (by kernel_rfl) (by decide +kernel) (by decide +kernel) (fun _ _ _ h => h) (Or.inl ⟨by rfl, ?_⟩) (by assumption) ?_
    rotate_left 1
    · (intro w' hSw; go_simp; try with_reducible rfl)
    try simp only [Act.put, List.setIfInBounds_toArray, List.set_cons_zero, List.set_cons_succ]
    refine wpAnyH_done (by decide +kernel) ?_ _
    refine NoPanic.normal ?_
    go_wp2_with fail
    go_ret
    exact ⟨rfl, HBV.out.trans (HB52.out.mono HBV.out.size)⟩
set_option maxRecDepth 100000 in
theorem lifted (os : Os) (started : os.Started) (H : Type) (enc : TypeId × Value → H) :
    ReturnsInHanded {} Tryd.checked os 5 .any (fun w args => (Rows.macCodesSpec.pre enc Tryd.prog Tryd.f5 [] false w args ∧ laidMetH Tryd.prog [("banyan/sha.roundNumbers", Rows.laid_banyan_sha_roundNumbers)] w) ∧ sizedMet enc Tryd.prog Tryd.f5 (OpenSpec.ofChange Rows.macCodesSpec) false w args)
      (Rows.macCodesSpec.post enc Tryd.prog Tryd.f5 false true false false) := by
  refine returnsInHanded_of_change_and (C := Tryd.checked) (X := fun w _ => laidMetH Tryd.prog [("banyan/sha.roundNumbers", Rows.laid_banyan_sha_roundNumbers)] w) (fun _ _ _ hh h => h.of_heap hh) own started (by kernel_rfl) Tryd.func5
    (ChangeSpec.witness_shaped (enc := enc) (C := Tryd.checked) (os := os) (X := fun w _ => laidMetH Tryd.prog [("banyan/sha.roundNumbers", Rows.laid_banyan_sha_roundNumbers)] w) false (World.doorLaid Tryd.prog 400 os) #[.agg (codeCells none 0 0 none 0 0 (List.replicate 32 0) false)] 8 rfl (World.shaped_of_RefB (by kernel_rfl) (by kernel_rfl)) (by kernel_rfl) (by kernel_rfl) (by kernel_rfl) (door_met os _)) ?_
  intro W base args ds gs before hval0 hW _ hsz0 hL _
  have hval : ∀ (j : Nat) t v, Tryd.f5.params[j]? = some t → args[j]? = some v → Value.okWide Tryd.prog W .any base t v := hval0
  have hsz : (DataW.weightsEach Tryd.prog (Tryd.f5.params.toList ++ Rows.macCodesSpec.plain.varTypes Tryd.prog) (ds ++ gs)).all (· ≤ reachBytes) = true := hsz0
  clear hsz0
  have hW' := hW
  obtain ⟨p, q, hA0, hV, rfl, hfz, hnd⟩ := hW
  have hA : DataW.TrodAll enc Tryd.prog W 0 (fun _ => true) true Tryd.f5.params.toList args.toList ds p := hA0
  rw [Tryd.params5] at hA hval hsz
  obtain ⟨v0, vs0, d0, ds0, p0, q0, hargs, rfl, rfl, h0, r0⟩ := trodAll_cons hA
  obtain ⟨rfl, rfl, rfl⟩ := trodAll_nil r0
  obtain rfl : args = #[v0] := by cases args; simp_all
  obtain ⟨rfl, rfl⟩ := trodVars_none hV
  have k0 := h0
  have lt0 : ∀ x ∈ p0, x.block < W.heap.size := by obtain ⟨m, hm⟩ := k0; exact DataW.trod_lt m _ _ _ hm
  obtain ⟨a0, len0, cap0, l0, a1, len1, cap1, l1, x0, o0, rfl, e0, b0, m0, n0, e1, b1, m1, n1, hx0, hy0⟩ := open_code (hval 0 44 v0 rfl rfl) h0 hsz
  have hK := of_laid hL
  clear hA0 hval0
  refine (walk W a0 len0 cap0 l0 a1 len1 cap1 l1 x0 o0 e0 b0 m0 n0 e1 b1 m1 n1 hx0 hy0 hK).mono fun e W' ⟨he, bel⟩ => ?_
  subst he
  exact ⟨_, rfl, _, _, _, [], _, [], hW', trodAll_mk1 (shut_bool Tryd.underlying4 _), (trodAll_cons_mk (Below.trod laidOut (by kernel_rfl) (of_decide_eq_true (by kernel_rfl)) k0 bel lt0) trodAll_mk0), rfl, bel.frame _, fun h => by cases h⟩

theorem over : Rows.MacCodesSaid :=
  OpenClaim.holds_of_wide 5 Tryd.f5 rfl rfl rfl rfl rfl rfl rfl ⟨rfl, rfl, rfl, rfl, rfl⟩ rfl rfl rfl rfl rfl (by kernel_rfl) Tryd.func5 (by kernel_rfl)
    (of_decide_eq_true (by kernel_rfl)) (by unfold Func.isWrapper; first | (rw [if_pos (by decide +kernel)]; kernel_rfl) | (rw [if_neg (by decide +kernel)]; exact ⟨rfl, rfl⟩))
    (fun os started H enc _ => lifted os started H enc)

/-- The statement. -/
theorem proved : Rows.MacCodesCardSaid :=
  Claim7.holds_tied_plain_at .later [] [.data] true (true, "e0374d2ffff8b996aa7eb96177f9d43dd083ddb5548ca805c513efc6b04d9a8e") false
    over (fun _ h => by cases h) (by kernel_rfl) (fun _ h => by cases h) macCodes_row_tie rfl ⟨rfl, rfl⟩ (by kernel_rfl) rfl
    (fun f fn hf hfn => by
      obtain rfl : f = 5 := Option.some.inj ((show Tryd.prog.funcNamed "banyan/banyanlaw03.MacCodes" = some 5 by kernel_rfl).symm.trans hf) |>.symm
      obtain rfl : fn = Tryd.f5 := (Option.some.inj (Tryd.func5.symm.trans hfn)).symm
      exact ⟨by kernel_rfl, fun j t ht => by
        rw [Tryd.params5] at ht
        have hm : t ∈ [44] := by simpa using Array.mem_of_getElem? ht
        have hall : ([44].all fun u => !Tryd.prog.wantsStandIn u) = true := by kernel_rfl
        exact (show Tryd.prog.wantsStandIn t = false by simpa using List.all_eq_true.1 hall t hm)⟩)
    (by kernel_rfl)
#print axioms proved
end Go.Proofs.YtpmeiadnikenmaaDoor.macCodes
