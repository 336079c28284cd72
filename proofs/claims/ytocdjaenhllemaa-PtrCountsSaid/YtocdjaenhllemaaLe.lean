/-
  The reference's Less of layer 8, the order of pointers as the order of their bytes.
-/
import Derived.Test.YtocdjaenhllemaaAb
import Derived.Test.YtocdjaenhllemaaRb
namespace Go.Proofs.Ytocdjaenhllemaa
set_option maxRecDepth 4000
open Go.ChangeShapes Go.WideShapes Go.ChangeAt Go.RowKit

theorem num_app (l m : List Int) : num (l ++ m) = num l * 256 ^ m.length + num m := by
  induction l with
  | nil => simp [num_nil]
  | cons a l ih =>
    rw [List.cons_append, num_consI, num_consI, ih, List.length_append, Int.pow_add, Int.add_mul, Int.mul_assoc]
    omega
theorem num_ptrB (q : PtrV) : num (ptrB q) = nuP q := by
  unfold ptrB nuP
  rw [num_app, num_app, putI_num 4 _ q.a0.1 (by have := q.a0.2; omega), putI_num 8 _ q.b0.1 (by have := q.b0.2; omega), List.length_append, putI_length, q.s0.1, Int.pow_add, Int.add_mul]
  have e : (256 : Int) ^ 8 = 18446744073709551616 := by decide
  rw [e, Int.mul_assoc]
  omega
theorem less_ptrB (p q : PtrV) : Op.bytesLess (strOfNums (ptrB p)).toList (strOfNums (ptrB q)).toList = decide (nuP p < nuP q) := by
  rw [str_less _ _ (ptrB_byt p) (ptrB_byt q), lexI_num _ _ ((ptrB_length p).trans (ptrB_length q).symm) (ptrB_byt p) (ptrB_byt q), num_ptrB, num_ptrB]
  rcases Int.lt_trichotomy (nuP p) (nuP q) with h | h | h
  · rw [cmpI_lt h]; simp [h]
  · rw [h, cmpI_self]; simp
  · rw [cmpI_gt h]; simp; omega
set_option maxRecDepth 100000 in
set_option maxHeartbeats 1600000 in
theorem rless_any (p q : PtrV) (w : World) :
    Calls Try.prog 19 #[.agg (ptrRow p).toArray, .agg (ptrRow q).toArray] w fun e w' => e = .returned (.bool (decide (nuP p < nuP q))) ∧ Below w.heap.size w w' := by
  obtain ⟨hr1, hb1, hs1⟩ := box_facts w p
  obtain ⟨hr2, hb2, hs2⟩ := box_facts (w.alloc (.cells (ptrRow p).toArray 35)) q
  obtain ⟨T, hT⟩ : ∃ T, w.heap.size = T := ⟨_, rfl⟩
  have hU : (w.alloc (.cells (ptrRow p).toArray 35)).heap.size = T + 1 := by rw [hs1, hT]
  obtain ⟨U, hUU⟩ : ∃ U, T + 1 = U := ⟨_, rfl⟩
  rw [hUU] at hU
  have HBW := Lib.hid (show Below w.heap.size w ((w.alloc (.cells (ptrRow p).toArray 35)).alloc (.cells (ptrRow q).toArray 35)) from hb1.trans (hb2.mono hb1.size))
  have hr1' := range_below hr1 hb2
  rw [hT] at hr1'
  rw [hU] at hr2
  have HLS := Lib.hid (less_ptrB p q)
  have SA := Lib.hid (size_ptr p)
  have SB := Lib.hid (size_ptr q)
  generalize hw2 : (w.alloc (.cells (ptrRow p).toArray 35)).alloc (.cells (ptrRow q).toArray 35) = w2 at *
  have HSS := Lib.hid (show ∀ W : World, Below w2.heap.size w2 W → W.rangeAt T 0 (ptrRow p) ∧ W.rangeAt U 0 (ptrRow q) from fun W hW => ⟨range_below hr1' hW, range_below hr2 hW⟩)
  have HF1 := Lib.hid (fun (W : World) (_ : Below w2.heap.size w2 W) => rptrb_any p W)
  have HF2 := Lib.hid (fun (W : World) (_ : Below w2.heap.size w2 W) => rptrb_any q W)
  have HB0 := Lib.hid (show Below w2.heap.size w2 w2.drew from (Below.refl _ w2).drew)
  clear hr1 hr2 hr1' hb1 hb2 hs1 hs2
  generalize decide (nuP p < nuP q) = DC at *
  generalize ptrB p = BA at *
  generalize ptrB q = BB at *
  obtain ⟨AL, hAL⟩ : ∃ AL, ptrRow p = AL := ⟨_, rfl⟩
  obtain ⟨BL, hBL⟩ : ∃ BL, ptrRow q = BL := ⟨_, rfl⟩
  rw [hAL, hBL] at HSS hw2
  rw [hAL] at SA HF1 hU ⊢
  rw [hBL] at SB HF2 ⊢
  obtain ⟨AR, hAR⟩ : ∃ AR, AL.toArray = AR := ⟨_, rfl⟩
  obtain ⟨BR, hBR⟩ : ∃ BR, BL.toArray = BR := ⟨_, rfl⟩
  rw [hAR] at HF1 hw2 hU ⊢
  rw [hBR] at HF2 hw2 ⊢
  have HAL := Lib.hid hAR
  have HBL := Lib.hid hBR
  clear hAL hBL hAR hBR
  go_enter Try.func19, Try.ntmps19
  go_upto_region 1 with fail
  try simp only [hT, hU, hw2, hUU]
  clear hT hU hUU hw2
  try simp only [Act.put]
  refine wp_region_noPanic ?_
  refine wp_region_held_drew (S := fun W => W.rangeAt T 0 AL ∧ W.rangeAt U 0 BL) (by kernel_rfl) (HSS.out _ HB0.out) (fun hHeld => ?_)
  refine wpAnyH_take (i := 0) (oi := ⟨some 7, _, _, _, _, _⟩) rfl (by kernel_rfl) (by decide +kernel) (by decide +kernel) (fun _ _ _ h => h) (yieldsIf_load_mid (by rfl) _ _ rfl T 0 rfl AL _ (fun w' h => h.1) Try.underlying35 rfl SA.out) (by assumption) ?_
  try simp only [Act.put, List.setIfInBounds_toArray, List.set_cons_zero, List.set_cons_succ]
  rw [HAL.out]
  refine wpAnyH_take (i := 2) (oi := ⟨some 9, _, _, _, _, _⟩) rfl (by kernel_rfl) (by decide +kernel) (by decide +kernel) (fun _ _ _ h => h) (yieldsIf_load_mid (by rfl) _ _ rfl U 0 rfl BL _ (fun w' h => h.2) Try.underlying35 rfl SB.out) (by assumption) ?_
  try simp only [Act.put, List.setIfInBounds_toArray, List.set_cons_zero, List.set_cons_succ]
  rw [HBL.out]
  refine wpAnyH_ready (rs := [1]) (by decide +kernel) (by simp) ?_
  refine AllReadyH.cons rfl (fun K hK => ?_) AllReadyH.nil
  go_simp
  go_at_call 26
  refine (HF1.out _ HB0.out).mono ?_
  rintro e wt1 ⟨av1, cv1, rfl, _, hbs1, hb⟩
  have HB1 := Lib.hid (HB0.out.trans (hb.mono HB0.out.size))
  have HV1 := Lib.hid hbs1
  clear hb hbs1
  go_wp2_with fail
  refine hK.out _ _ (HSS.out _ HB1.out) (fun hHeld => ?_)
  clear hK K
  try simp only [Act.put, List.setIfInBounds_toArray, List.set_cons_zero, List.set_cons_succ]
  refine wpAnyH_ready (rs := [3]) (by decide +kernel) (by simp) ?_
  refine AllReadyH.cons rfl (fun K hK => ?_) AllReadyH.nil
  go_simp
  go_at_call 26
  refine (HF2.out _ HB1.out).mono ?_
  rintro e wt2 ⟨av2, cv2, rfl, _, hbs2, hb⟩
  have HB2 := Lib.hid (HB1.out.trans (hb.mono HB1.out.size))
  have HV1b := Lib.hid (HV1.out.kept hb)
  have HV2 := Lib.hid hbs2
  clear hb hbs2
  go_wp2_with fail
  refine hK.out _ _ (HSS.out _ HB2.out) (fun hHeld => ?_)
  clear hK K
  try simp only [Act.put, List.setIfInBounds_toArray, List.set_cons_zero, List.set_cons_succ]
  refine wpAnyH_take (i := 4) (oi := ⟨some 5, _, _, _, _, _⟩) (v := ?_) rfl (by kernel_rfl) (by decide +kernel) (by decide +kernel) (fun _ _ _ h => h) (Or.inl ⟨by rfl, ?_⟩) (by assumption) ?_
  rotate_left 1
  · (intro w' hSw; go_simp; try with_reducible rfl)
  try simp only [Act.put, List.setIfInBounds_toArray, List.set_cons_zero, List.set_cons_succ]
  refine wpAnyH_take (i := 5) (oi := ⟨some 6, _, _, _, _, _⟩) (v := ?_) rfl (by kernel_rfl) (by decide +kernel) (by decide +kernel) (fun _ _ _ h => h) (Or.inl ⟨by rfl, ?_⟩) (by assumption) ?_
  rotate_left 1
  · (intro w' hSw; go_simp; try with_reducible rfl)
  try simp only [Act.put, List.setIfInBounds_toArray, List.set_cons_zero, List.set_cons_succ]
  clear hHeld
  refine wpAnyH_done (by decide +kernel) ?_ _
  refine NoPanic.normal ?_
  have hc1 := conv_BS HV1b.out
  have hc2 := conv_BS HV2.out
  have hls := HLS.out
  go_wp2_with fail
  go_ret
  exact ⟨rfl, HBW.out.trans (HB2.out.mono HBW.out.size)⟩
end Go.Proofs.Ytocdjaenhllemaa
