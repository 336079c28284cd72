/-
  'PtrAdds' returns true at every input, and each argument reads behind the call as it read before. Conditions: none.
-/
import Derived.Test.YtcgddhainmnebaaRows
import Derived.Test.YtcgddhainmnebaaAes0
import Derived.Test.YtcgddhainmnebaaAz
namespace Go.Proofs.Ytcgddhainmnebaa.ptrAdds
open Go.ChangeShapes Go.WideShapes Go.ChangeAt Go.RowKit
set_option linter.unusedVariables false

theorem allL_short (L : List PtrV) : (allL L).length ≤ L.length := by
  have h1 : ∀ (q : PtrV) (l : List PtrV), (ins8 q l).length ≤ l.length + 1 := by
    intro q l
    induction l with
    | nil => simp [ins8]
    | cons p r ih =>
      unfold ins8
      split
      · simp only [List.length_cons]; omega
      · split <;> simp
  have h2 : ∀ (L out : List PtrV), (L.foldl (fun out q => ins8 q out) out).length ≤ out.length + L.length := by
    intro L
    induction L with
    | nil => intro out; simp
    | cons q L ih =>
      intro out
      have := ih (ins8 q out)
      have := h1 q out
      simp only [List.foldl_cons, List.length_cons]
      omega
  have h3 := h2 L []
  simpa [allL] using h3
theorem block_lt_of_range {w : World} {T : Nat} {AL : List Value} (h : w.rangeAt T 0 AL) (hn : AL ≠ []) : T < w.heap.size := by
  obtain ⟨x, r, rfl⟩ := List.exists_cons_of_ne_nil hn
  exact block_lt_of_cell (h 0 x rfl)

set_option maxRecDepth 100000 in
set_option maxHeartbeats 3200000 in
theorem walk (w : World) (a0 : Option Addr) (len0 cap0 : Nat) (x0 : List PtrV) (sl0 : SlR RPtrV 34 w x0 a0 len0 cap0) (a1 : Option Addr) (len1 cap1 : Nat) (x1 : List Int) (e1 : x1.length = len1) (m1 : len1 ≤ cap1) (n1 : cap1 ≤ 140737488351232) (b1 : BS w (.slice a1 len1 cap1) x1) :
    Calls Try.prog 11 #[.slice a0 len0 cap0, .slice a1 len1 cap1] w fun e w' => e = .returned (.bool true) ∧ Below w.heap.size w w' := by
  have lI : (len0 : Int) ≤ 140737488351232 := by have := sl0.big; have := sl0.cap; omega
  have l0 : (0 : Int) ≤ (len0 : Int) := by omega
  have lJ : (len1 : Int) ≤ 140737488351232 := by omega
  have l1 : (0 : Int) ≤ (len1 : Int) := by omega
  have HSL := Lib.hid sl0
  have HA := Lib.hid (alive8_any w)
  obtain ⟨bd, od, hbd, hcd⟩ := bs_at b1
  have HBD := Lib.hid hbd
  have HCD := Lib.hid (show ∀ i, i < len1 → (∀ W : World, Below w.heap.size w W → W.cell? ⟨bd, od + i, none⟩ = some (.int .u8 (x1.getD i 0))) ∧ 0 ≤ x1.getD i 0 ∧ x1.getD i 0 ≤ 255 from fun i hi => ⟨fun W hW => (hW.cell (block_lt_of_cell (hcd i hi).1)).trans (hcd i hi).1, (hcd i hi).2⟩)
  clear sl0 b1 hbd hcd e1 m1 n1
  by_cases hbig : 100 < len0
  · have hbI : (100 : Int) < (len0 : Int) := by omega
    clear hbig
    go_enter Try.func11, Try.ntmps11
    go_wp2_with fail
    refine HA.out.mono ?_
    rintro e w1 ⟨rfl, hb1⟩
    have HB1 := Lib.hid hb1
    clear hb1 HA
    go_wp2_with fail
    go_ret
    exact ⟨rfl, HB1.out⟩
  have hsm : (len0 : Int) ≤ 100 := by omega
  have HS0L := Lib.hid (show len0 ≤ 100 by omega)
  clear lI hbig
  by_cases hbig : 100 < len1
  · have hbI : (100 : Int) < (len1 : Int) := by omega
    clear hbig
    go_enter Try.func11, Try.ntmps11
    go_wp2_with fail
    refine HA.out.mono ?_
    rintro e w1 ⟨rfl, hb1⟩
    have HB1 := Lib.hid hb1
    clear hb1 HA
    go_wp2_with fail
    go_ret
    exact ⟨rfl, HB1.out⟩
  have hsm1 : (len1 : Int) ≤ 100 := by omega
  have HS1L := Lib.hid (show len1 ≤ 100 by omega)
  have HLN := Lib.hid HSL.out.len
  clear lJ hbig
  have hzp := zero_ptr
  have HZL := Lib.hid (fun q : PtrV => show (ptrRow zeroPtr).toArray.size = (ptrRow q).toArray.size by simp [ptrRow_length])
  have HNE := Lib.hid (fun q : PtrV => show ptrRow q ≠ [] by simp [ptrRow])
  obtain ⟨ZA, hZA⟩ : ∃ ZA, (ptrRow zeroPtr).toArray = ZA := ⟨_, rfl⟩
  rw [hZA] at hzp HZL
  clear hZA
  go_enter Try.func11, Try.ntmps11
  go_wp2_with fail
  refine HA.out.mono ?_
  rintro e w1 ⟨rfl, hb1⟩
  have HN1 := Lib.hid (pnew8 w w1 hb1)
  clear hb1 HA
  go_wp2_with fail
  refine HN1.out.mono ?_
  rintro e w2 ⟨rfl, hc2, hb2⟩
  have HZ3 := Lib.hid (az_new hc2)
  have hmm : ∀ W : World, (Instr.makeMap 66 none).run Try.prog W = .ok (.map (some W.heap.size)) (W.alloc (.map #[] 0)) := fun W => run_makeMap _ W
  clear hb2 hc2 HN1
  generalize w1.heap.size = C at *
  go_upto_region 7 with fail
  clear hmm
  obtain ⟨bw, hbw⟩ : ∃ bw, w2.heap.size = bw := ⟨_, rfl⟩
  try rw [hbw]
  rw [hbw] at HZ3
  generalize World.alloc w2 _ = w3 at *
  clear hbw
  go_wp2_with fail
  go_loopw [31] (fun v31 wr => ∃ (i : Nat) (mv : Value), i ≤ len0 ∧ v31 = .int .i64 (i : Int) ∧ AZ w wr C mv (x0.take i) i bw (x0.take i) (x0.take i) i) (fun v _ => len0 - (intOf v).toNat)
  case atStart => exact ⟨0, _, by omega, rfl, HZ3.out⟩
  case round =>
    clear HZ3
    obtain ⟨i, mv, hi, rfl, hZ⟩ := hrel
    by_cases hlt : i < len0
    · obtain ⟨b, off, q, rfl, hxi, hrg⟩ := ptrs_at HSL.out hZ.co.bel hlt
      have hix := index_ptr b off len0 cap0 i hlt
      have SWC := Lib.hid (size_ptr q)
      have SZ := Lib.hid (size_ptr q)
      have SWR := Lib.hid (size_ptrA q)
      have EW := Lib.hid (HZL.out q)
      have WO := Lib.hid (ptrRow_one q)
      have HRG := Lib.hid hrg
      have HLT := Lib.hid hlt
      have iI : (i : Int) < (len0 : Int) := by omega
      have i0 : (0 : Int) ≤ (i : Int) := by omega
      have HZ := Lib.hid hZ
      have HNX := Lib.hid (show x0.take (i + 1) = x0.take i ++ [q] by rw [List.take_add_one, hxi]; rfl)
      obtain ⟨cq, hcq⟩ : ∃ cq : Nat, (x0.take i).count q = cq := ⟨_, rfl⟩
      have HCQ := Lib.hid hcq
      have HNC := Lib.hid (show (((x0.take (i + 1)).count q : Nat) : Int) = (cq : Int) + 1 by rw [HNX.out, List.count_append, hcq]; simp)
      have HCL := Lib.hid (show cq ≤ 100 by have := List.count_le_length (a := q) (l := x0.take i); rw [hcq, List.length_take] at this; have := HS0L.out; omega)
      have HWC := Lib.hid (show IntKind.i64.wrap ((cq : Int) + 1) = (cq : Int) + 1 from IntWalk.i64_in _ (by have := HCL.out; omega))
      replace HNE := Lib.hid (HNE.out q)
      clear hi hlt hrg hxi hZ hcq
      go_upto_region 10 with (first
        | (with_reducible refine wpList_load_mid (op := ⟨some 34, _, _, _, _, _⟩) rfl 57 _ rfl b (off + i * 34) rfl (ptrRow q) _ HRG.out Try.underlying57 rfl SWC.out ?_)
        | (with_reducible refine wpList_store_row (o := ⟨none, .store _ (.tmp 8) _, _, _, _, _⟩) rfl 57 _ _ rfl wr.heap.size (ptrRow q).toArray rfl rfl 57 ZA (heap_alloc_new wr _) SWR.out EW.out WO.out ?_))
      clear hix
      obtain ⟨h7, hb7⟩ := new_row8 wr ZA (ptrRow q).toArray
      generalize World.setRow _ wr.heap.size _ = w7 at *
      have H7 := Lib.hid h7
      have HZ7 := Lib.hid (HZ.out.below hb7)
      have HTL := Lib.hid (show wr.heap.size < w7.heap.size from (Array.getElem?_eq_some_iff.1 h7).1)
      have HTN := Lib.hid (show wr.heap.size ≠ bw by have := HZ.out.lt; omega)
      have HTC := Lib.hid (show wr.heap.size ∉ C :: mbl mv from fun hm => by
        rcases List.mem_cons.1 hm with e | e
        · have := HZ.out.co.lt; omega
        · have := (HZ.out.co.map.lt _ e).1; omega)
      obtain ⟨T, hT⟩ : ∃ T, wr.heap.size = T := ⟨_, rfl⟩
      rw [hT] at H7 HTL HTN HTC ⊢
      clear h7 hb7 hT HRG SWC EW WO HZ
      obtain ⟨v0, st, o1, o2, e1, e2, e3, e4, e5, e6, e7, e8⟩ := az_put (T := T) (AL := ptrRow q) (A' := x0.take (i + 1)) (M' := x0.take (i + 1)) (q := q) (c := (cq : Int) + 1) HZ7.out (by have := HCL.out; have := HLT.out; have := HS0L.out; omega) (range_of_row H7.out) HTN.out (HNC.out.symm) (by have := HCL.out; have := HLT.out; have := HS0L.out; omega) (fun p => by rw [HNX.out, List.mem_append, List.mem_singleton]) (fun p hp => by rw [HNX.out, List.count_append, List.count_singleton, if_neg (by simpa using fun e => hp e.symm)]; rfl)
      rw [HCQ.out] at e2 e3
      obtain ⟨AL, hAL⟩ : ∃ AL, ptrRow q = AL := ⟨_, rfl⟩
      rw [hAL] at e1 e2 e3 e5 e6 H7 SWR SZ HNE
      obtain ⟨AR, hAR⟩ : ∃ AR, AL.toArray = AR := ⟨_, rfl⟩
      rw [hAR] at e1 e2 e3 H7 SWR
      have HAL := Lib.hid hAR
      have HQR := Lib.hid (show (ptrRow q).toArray = AR by rw [hAL, hAR])
      have HME := Lib.hid e1
      have HLA := Lib.hid e2
      have HLB := Lib.hid e3
      have HES := Lib.hid e4
      have HSE := Lib.hid (And.intro e5 e6)
      have HS0 := Lib.hid (show w7.drew.rangeAt T 0 AL from by rw [← hAL]; exact range_of_row (show w7.drew.heap[T]? = some (.cells (ptrRow q).toArray 57 (0, 0)) by rw [hAL, hAR]; exact H7.out))
      have HZE := Lib.hid e7
      have HHE := Lib.hid e8
      clear hAL hAR e1 e2 e3 e4 e5 e6 e7 e8
      generalize hwE : ChangeMaps.setBlock w7.drew bw o1 = wE at *
      generalize hwF : ChangeMaps.setBlock wE bw o2 = wF at *
      clear hwE hwF
      try simp only [Act.put]
      refine wp_region_noPanic ?_
      refine wp_region_held_drew (S := fun W => W.rangeAt T 0 AL) (by kernel_rfl) (HS0.out) (fun hHeld => ?_)
      refine wpAnyH_take (i := 0) (oi := ⟨some 35, _, _, _, _, _⟩) (v := ?_) rfl (by kernel_rfl) (by decide +kernel) (by decide +kernel) (fun _ _ _ h => h) (Or.inl ⟨by rfl, ?_⟩) (by assumption) ?_
      rotate_left 1
      · (intro w' hSw; go_simp; try with_reducible rfl)
      try simp only [Act.put, List.setIfInBounds_toArray, List.set_cons_zero, List.set_cons_succ]
      refine wpAnyH_take (i := 1) (oi := ⟨some 36, _, _, _, _, _⟩) rfl (by kernel_rfl) (by decide +kernel) (by decide +kernel) (fun _ _ _ h => h) (yieldsIf_load_mid (by rfl) _ _ rfl T 0 rfl AL _ (fun w' h => h) Try.underlying57 rfl SZ.out) (by assumption) ?_
      try simp only [Act.put, List.setIfInBounds_toArray, List.set_cons_zero, List.set_cons_succ]
      rw [HAL.out]
      refine wpAnyH_ready (rs := [2, 4]) (by decide +kernel) (by simp) ?_
      refine AllReadyH.cons rfl (fun K hK => ?_) (AllReadyH.cons rfl (fun K hK => ?_) AllReadyH.nil)
      · have hlk := HLA.out
        go_simp
        refine hK.out _ _ HS0.out (fun hHeld => ?_)
        clear hK K hlk
        try simp only [Act.put, List.setIfInBounds_toArray, List.set_cons_zero, List.set_cons_succ]
        have hwc := HWC.out
        refine wpAnyH_take (i := 3) (oi := ⟨some 38, _, _, _, _, _⟩) (v := ?_) rfl (by kernel_rfl) (by decide +kernel) (by decide +kernel) (fun _ _ _ h => h) (Or.inl ⟨by rfl, ?_⟩) (by assumption) ?_
        rotate_left 1
        · (intro w' hSw; go_simp; try with_reducible rfl)
        try simp only [Act.put, List.setIfInBounds_toArray, List.set_cons_zero, List.set_cons_succ]
        clear hwc
        refine wpAnyH_ready (rs := [4]) (by decide +kernel) (by simp) ?_
        refine AllReadyH.cons rfl (fun K hK => ?_) AllReadyH.nil
        have hme := HME.out
        go_simp
        refine hK.out _ _ HSE.out.1 (fun hHeld => ?_)
        clear hK K hme
        try simp only [Act.put, List.setIfInBounds_toArray, List.set_cons_zero, List.set_cons_succ]
        refine wpAnyH_take (i := 5) (oi := ⟨some 40, _, _, _, _, _⟩) (v := ?_) rfl (by kernel_rfl) (by decide +kernel) (by decide +kernel) (fun _ _ _ h => h) (Or.inl ⟨by rfl, ?_⟩) (by assumption) ?_
        rotate_left 1
        · (intro w' hSw; go_simp; try with_reducible rfl)
        try simp only [Act.put, List.setIfInBounds_toArray, List.set_cons_zero, List.set_cons_succ]
        refine wpAnyH_ready (rs := [6]) (by decide +kernel) (by simp) ?_
        refine AllReadyH.cons rfl (fun K hK => ?_) AllReadyH.nil
        rw [if_pos (by kernel_rfl)]
        have hes := HES.out
        go_simp
        refine hK.out _ _ HSE.out.2 (fun hHeld => ?_)
        clear hK K hes hHeld
        refine wpAnyH_done (by decide +kernel) ?_ _
        refine NoPanic.normal ?_
        go_upto_region 11 with fail
        have HZD := Lib.hid (HZE.out.below (Below.refl _ wF).drew)
        have HSD := Lib.hid (show wF.drew.rangeAt T 0 AL from range_below HSE.out.2 (Below.refl _ wF).drew)
        have HAD := Lib.hid (padd8 w wF.drew C i mv _ q HZD.out.co (by have := HLT.out; have := HS0L.out; omega) (by rw [List.length_take]; have := HS0L.out; omega))
        rw [HCQ.out] at HAD
        have HLD := Lib.hid (show (Instr.lookup 66 (.map (some bw)) (.agg AR) false).run Try.prog wF.drew = .ok (.int .i64 ((cq : Int) + 1)) wF.drew by rw [← HQR.out, ← HNC.out]; exact HZD.out.look q)
        have HTF := Lib.hid (show T < wF.heap.size from block_lt_of_range HSE.out.2 HNE.out)
        rw [HQR.out] at HAD
        clear HME HLA HLB HES HS0 HZ7
        try simp only [Act.put]
        refine wp_region_noPanic ?_
        refine wp_region_held_drew (S := fun W => W.rangeAt T 0 AL) (by kernel_rfl) (HSD.out) (fun hHeld => ?_)
        refine wpAnyH_take (i := 0) (oi := ⟨some 41, _, _, _, _, _⟩) (v := ?_) rfl (by kernel_rfl) (by decide +kernel) (by decide +kernel) (fun _ _ _ h => h) (Or.inl ⟨by rfl, ?_⟩) (by assumption) ?_
        rotate_left 1
        · (intro w' hSw; go_simp; try with_reducible rfl)
        try simp only [Act.put, List.setIfInBounds_toArray, List.set_cons_zero, List.set_cons_succ]
        refine wpAnyH_take (i := 1) (oi := ⟨some 42, _, _, _, _, _⟩) rfl (by kernel_rfl) (by decide +kernel) (by decide +kernel) (fun _ _ _ h => h) (yieldsIf_load_mid (by rfl) _ _ rfl T 0 rfl AL _ (fun w' h => h) Try.underlying57 rfl SZ.out) (by assumption) ?_
        try simp only [Act.put, List.setIfInBounds_toArray, List.set_cons_zero, List.set_cons_succ]
        rw [HAL.out]
        refine wpAnyH_take (i := 3) (oi := ⟨some 44, _, _, _, _, _⟩) (v := ?_) rfl (by kernel_rfl) (by decide +kernel) (by decide +kernel) (fun _ _ _ h => h) (Or.inl ⟨by rfl, ?_⟩) (by assumption) ?_
        rotate_left 1
        · (intro w' hSw; go_simp; try with_reducible rfl)
        try simp only [Act.put, List.setIfInBounds_toArray, List.set_cons_zero, List.set_cons_succ]
        refine wpAnyH_take (i := 4) (oi := ⟨some 45, _, _, _, _, _⟩) rfl (by kernel_rfl) (by decide +kernel) (by decide +kernel) (fun _ _ _ h => h) (yieldsIf_load_mid (by rfl) _ _ rfl T 0 rfl AL _ (fun w' h => h) Try.underlying57 rfl SZ.out) (by assumption) ?_
        try simp only [Act.put, List.setIfInBounds_toArray, List.set_cons_zero, List.set_cons_succ]
        rw [HAL.out]
        refine wpAnyH_ready (rs := [2, 5]) (by decide +kernel) (by simp) ?_
        refine AllReadyH.cons rfl (fun K hK => ?_) (AllReadyH.cons rfl (fun K hK => ?_) AllReadyH.nil)
        · go_simp
          go_at_call 31
          refine HAD.out.mono ?_
          rintro e wt ⟨rfl, mv', hct, hst⟩
          have HZT := Lib.hid (HZD.out.step hct hst)
          rw [← HNX.out] at HZT
          have HST := Lib.hid (range_touch HSD.out hst.1 HTC.out (show T < wF.heap.size from HTF.out))
          have HLT2 := Lib.hid (show (Instr.lookup 66 (.map (some bw)) (.agg AR) false).run Try.prog wt = .ok (.int .i64 ((cq : Int) + 1)) wt by rw [← HQR.out, ← HNC.out]; exact HZT.out.look q)
          clear hct hst
          go_wp2_with fail
          refine hK.out _ _ HST.out (fun hHeld => ?_)
          clear hK K
          try simp only [Act.put, List.setIfInBounds_toArray, List.set_cons_zero, List.set_cons_succ]
          refine wpAnyH_ready (rs := [5]) (by decide +kernel) (by simp) ?_
          refine AllReadyH.cons rfl (fun K hK => ?_) AllReadyH.nil
          have hlk := HLT2.out
          go_simp
          refine hK.out _ _ HST.out (fun hHeld => ?_)
          clear hK K hlk
          try simp only [Act.put, List.setIfInBounds_toArray, List.set_cons_zero, List.set_cons_succ]
          refine wpAnyH_take (i := 6) (oi := ⟨some 47, _, _, _, _, _⟩) (v := ?_) rfl (by kernel_rfl) (by decide +kernel) (by decide +kernel) (fun _ _ _ h => h) (Or.inl ⟨by rfl, ?_⟩) (by assumption) ?_
          rotate_left 1
          · (intro w' hSw; go_simp; try with_reducible rfl)
          try simp only [Act.put, List.setIfInBounds_toArray, List.set_cons_zero, List.set_cons_succ]
          clear hHeld
          refine wpAnyH_done (by decide +kernel) ?_ _
          refine NoPanic.normal ?_
          go_wp2_with fail
          go_roundw
          case rel => exact ⟨i + 1, mv', by have := HLT.out; omega, by go_num, HZT.out⟩
          case measure => simp [intOf]; have := HLT.out; omega
        · have hlk := HLD.out
          go_simp
          refine hK.out _ _ HSD.out (fun hHeld => ?_)
          clear hK K hlk
          try simp only [Act.put, List.setIfInBounds_toArray, List.set_cons_zero, List.set_cons_succ]
          refine wpAnyH_ready (rs := [2]) (by decide +kernel) (by simp) ?_
          refine AllReadyH.cons rfl (fun K hK => ?_) AllReadyH.nil
          go_simp
          go_at_call 31
          refine HAD.out.mono ?_
          rintro e wt ⟨rfl, mv', hct, hst⟩
          have HZT := Lib.hid (HZD.out.step hct hst)
          rw [← HNX.out] at HZT
          have HST := Lib.hid (range_touch HSD.out hst.1 HTC.out (show T < wF.heap.size from HTF.out))
          have HLT2 := Lib.hid (show (Instr.lookup 66 (.map (some bw)) (.agg AR) false).run Try.prog wt = .ok (.int .i64 ((cq : Int) + 1)) wt by rw [← HQR.out, ← HNC.out]; exact HZT.out.look q)
          clear hct hst
          go_wp2_with fail
          refine hK.out _ _ HST.out (fun hHeld => ?_)
          clear hK K
          try simp only [Act.put, List.setIfInBounds_toArray, List.set_cons_zero, List.set_cons_succ]
          refine wpAnyH_take (i := 6) (oi := ⟨some 47, _, _, _, _, _⟩) (v := ?_) rfl (by kernel_rfl) (by decide +kernel) (by decide +kernel) (fun _ _ _ h => h) (Or.inl ⟨by rfl, ?_⟩) (by assumption) ?_
          rotate_left 1
          · (intro w' hSw; go_simp; try with_reducible rfl)
          try simp only [Act.put, List.setIfInBounds_toArray, List.set_cons_zero, List.set_cons_succ]
          clear hHeld
          refine wpAnyH_done (by decide +kernel) ?_ _
          refine NoPanic.normal ?_
          go_wp2_with fail
          go_roundw
          case rel => exact ⟨i + 1, mv', by have := HLT.out; omega, by go_num, HZT.out⟩
          case measure => simp [intOf]; have := HLT.out; omega
      · have hme := HME.out
        go_simp
        refine hK.out _ _ HSE.out.1 (fun hHeld => ?_)
        clear hK K hme
        try simp only [Act.put, List.setIfInBounds_toArray, List.set_cons_zero, List.set_cons_succ]
        refine wpAnyH_take (i := 5) (oi := ⟨some 40, _, _, _, _, _⟩) (v := ?_) rfl (by kernel_rfl) (by decide +kernel) (by decide +kernel) (fun _ _ _ h => h) (Or.inl ⟨by rfl, ?_⟩) (by assumption) ?_
        rotate_left 1
        · (intro w' hSw; go_simp; try with_reducible rfl)
        try simp only [Act.put, List.setIfInBounds_toArray, List.set_cons_zero, List.set_cons_succ]
        refine wpAnyH_ready (rs := [2]) (by decide +kernel) (by simp) ?_
        refine AllReadyH.cons rfl (fun K hK => ?_) AllReadyH.nil
        have hlk := HLB.out
        go_simp
        refine hK.out _ _ HSE.out.1 (fun hHeld => ?_)
        clear hK K hlk
        try simp only [Act.put, List.setIfInBounds_toArray, List.set_cons_zero, List.set_cons_succ]
        have hwc := HWC.out
        refine wpAnyH_take (i := 3) (oi := ⟨some 38, _, _, _, _, _⟩) (v := ?_) rfl (by kernel_rfl) (by decide +kernel) (by decide +kernel) (fun _ _ _ h => h) (Or.inl ⟨by rfl, ?_⟩) (by assumption) ?_
        rotate_left 1
        · (intro w' hSw; go_simp; try with_reducible rfl)
        try simp only [Act.put, List.setIfInBounds_toArray, List.set_cons_zero, List.set_cons_succ]
        clear hwc
        refine wpAnyH_ready (rs := [6]) (by decide +kernel) (by simp) ?_
        refine AllReadyH.cons rfl (fun K hK => ?_) AllReadyH.nil
        rw [if_pos (by kernel_rfl)]
        have hes := HES.out
        go_simp
        refine hK.out _ _ HSE.out.2 (fun hHeld => ?_)
        clear hK K hes hHeld
        refine wpAnyH_done (by decide +kernel) ?_ _
        refine NoPanic.normal ?_
        go_upto_region 11 with fail
        have HZD := Lib.hid (HZE.out.below (Below.refl _ wF).drew)
        have HSD := Lib.hid (show wF.drew.rangeAt T 0 AL from range_below HSE.out.2 (Below.refl _ wF).drew)
        have HAD := Lib.hid (padd8 w wF.drew C i mv _ q HZD.out.co (by have := HLT.out; have := HS0L.out; omega) (by rw [List.length_take]; have := HS0L.out; omega))
        rw [HCQ.out] at HAD
        have HLD := Lib.hid (show (Instr.lookup 66 (.map (some bw)) (.agg AR) false).run Try.prog wF.drew = .ok (.int .i64 ((cq : Int) + 1)) wF.drew by rw [← HQR.out, ← HNC.out]; exact HZD.out.look q)
        have HTF := Lib.hid (show T < wF.heap.size from block_lt_of_range HSE.out.2 HNE.out)
        rw [HQR.out] at HAD
        clear HME HLA HLB HES HS0 HZ7
        try simp only [Act.put]
        refine wp_region_noPanic ?_
        refine wp_region_held_drew (S := fun W => W.rangeAt T 0 AL) (by kernel_rfl) (HSD.out) (fun hHeld => ?_)
        refine wpAnyH_take (i := 0) (oi := ⟨some 41, _, _, _, _, _⟩) (v := ?_) rfl (by kernel_rfl) (by decide +kernel) (by decide +kernel) (fun _ _ _ h => h) (Or.inl ⟨by rfl, ?_⟩) (by assumption) ?_
        rotate_left 1
        · (intro w' hSw; go_simp; try with_reducible rfl)
        try simp only [Act.put, List.setIfInBounds_toArray, List.set_cons_zero, List.set_cons_succ]
        refine wpAnyH_take (i := 1) (oi := ⟨some 42, _, _, _, _, _⟩) rfl (by kernel_rfl) (by decide +kernel) (by decide +kernel) (fun _ _ _ h => h) (yieldsIf_load_mid (by rfl) _ _ rfl T 0 rfl AL _ (fun w' h => h) Try.underlying57 rfl SZ.out) (by assumption) ?_
        try simp only [Act.put, List.setIfInBounds_toArray, List.set_cons_zero, List.set_cons_succ]
        rw [HAL.out]
        refine wpAnyH_take (i := 3) (oi := ⟨some 44, _, _, _, _, _⟩) (v := ?_) rfl (by kernel_rfl) (by decide +kernel) (by decide +kernel) (fun _ _ _ h => h) (Or.inl ⟨by rfl, ?_⟩) (by assumption) ?_
        rotate_left 1
        · (intro w' hSw; go_simp; try with_reducible rfl)
        try simp only [Act.put, List.setIfInBounds_toArray, List.set_cons_zero, List.set_cons_succ]
        refine wpAnyH_take (i := 4) (oi := ⟨some 45, _, _, _, _, _⟩) rfl (by kernel_rfl) (by decide +kernel) (by decide +kernel) (fun _ _ _ h => h) (yieldsIf_load_mid (by rfl) _ _ rfl T 0 rfl AL _ (fun w' h => h) Try.underlying57 rfl SZ.out) (by assumption) ?_
        try simp only [Act.put, List.setIfInBounds_toArray, List.set_cons_zero, List.set_cons_succ]
        rw [HAL.out]
        refine wpAnyH_ready (rs := [2, 5]) (by decide +kernel) (by simp) ?_
        refine AllReadyH.cons rfl (fun K hK => ?_) (AllReadyH.cons rfl (fun K hK => ?_) AllReadyH.nil)
        · go_simp
          go_at_call 31
          refine HAD.out.mono ?_
          rintro e wt ⟨rfl, mv', hct, hst⟩
          have HZT := Lib.hid (HZD.out.step hct hst)
          rw [← HNX.out] at HZT
          have HST := Lib.hid (range_touch HSD.out hst.1 HTC.out (show T < wF.heap.size from HTF.out))
          have HLT2 := Lib.hid (show (Instr.lookup 66 (.map (some bw)) (.agg AR) false).run Try.prog wt = .ok (.int .i64 ((cq : Int) + 1)) wt by rw [← HQR.out, ← HNC.out]; exact HZT.out.look q)
          clear hct hst
          go_wp2_with fail
          refine hK.out _ _ HST.out (fun hHeld => ?_)
          clear hK K
          try simp only [Act.put, List.setIfInBounds_toArray, List.set_cons_zero, List.set_cons_succ]
          refine wpAnyH_ready (rs := [5]) (by decide +kernel) (by simp) ?_
          refine AllReadyH.cons rfl (fun K hK => ?_) AllReadyH.nil
          have hlk := HLT2.out
          go_simp
          refine hK.out _ _ HST.out (fun hHeld => ?_)
          clear hK K hlk
          try simp only [Act.put, List.setIfInBounds_toArray, List.set_cons_zero, List.set_cons_succ]
          refine wpAnyH_take (i := 6) (oi := ⟨some 47, _, _, _, _, _⟩) (v := ?_) rfl (by kernel_rfl) (by decide +kernel) (by decide +kernel) (fun _ _ _ h => h) (Or.inl ⟨by rfl, ?_⟩) (by assumption) ?_
          rotate_left 1
          · (intro w' hSw; go_simp; try with_reducible rfl)
          try simp only [Act.put, List.setIfInBounds_toArray, List.set_cons_zero, List.set_cons_succ]
          clear hHeld
          refine wpAnyH_done (by decide +kernel) ?_ _
          refine NoPanic.normal ?_
          go_wp2_with fail
          go_roundw
          case rel => exact ⟨i + 1, mv', by have := HLT.out; omega, by go_num, HZT.out⟩
          case measure => simp [intOf]; have := HLT.out; omega
        · have hlk := HLD.out
          go_simp
          refine hK.out _ _ HSD.out (fun hHeld => ?_)
          clear hK K hlk
          try simp only [Act.put, List.setIfInBounds_toArray, List.set_cons_zero, List.set_cons_succ]
          refine wpAnyH_ready (rs := [2]) (by decide +kernel) (by simp) ?_
          refine AllReadyH.cons rfl (fun K hK => ?_) AllReadyH.nil
          go_simp
          go_at_call 31
          refine HAD.out.mono ?_
          rintro e wt ⟨rfl, mv', hct, hst⟩
          have HZT := Lib.hid (HZD.out.step hct hst)
          rw [← HNX.out] at HZT
          have HST := Lib.hid (range_touch HSD.out hst.1 HTC.out (show T < wF.heap.size from HTF.out))
          have HLT2 := Lib.hid (show (Instr.lookup 66 (.map (some bw)) (.agg AR) false).run Try.prog wt = .ok (.int .i64 ((cq : Int) + 1)) wt by rw [← HQR.out, ← HNC.out]; exact HZT.out.look q)
          clear hct hst
          go_wp2_with fail
          refine hK.out _ _ HST.out (fun hHeld => ?_)
          clear hK K
          try simp only [Act.put, List.setIfInBounds_toArray, List.set_cons_zero, List.set_cons_succ]
          refine wpAnyH_take (i := 6) (oi := ⟨some 47, _, _, _, _, _⟩) (v := ?_) rfl (by kernel_rfl) (by decide +kernel) (by decide +kernel) (fun _ _ _ h => h) (Or.inl ⟨by rfl, ?_⟩) (by assumption) ?_
          rotate_left 1
          · (intro w' hSw; go_simp; try with_reducible rfl)
          try simp only [Act.put, List.setIfInBounds_toArray, List.set_cons_zero, List.set_cons_succ]
          clear hHeld
          refine wpAnyH_done (by decide +kernel) ?_ _
          refine NoPanic.normal ?_
          go_wp2_with fail
          go_roundw
          case rel => exact ⟨i + 1, mv', by have := HLT.out; omega, by go_num, HZT.out⟩
          case measure => simp [intOf]; have := HLT.out; omega
    · obtain rfl : i = len0 := by omega
      rw [List.take_of_length_le (by have := HLN.out; omega)] at hZ
      have HZ0 := Lib.hid hZ
      clear hi hlt hZ
      go_wp2_with fail
      go_loopw [10, 12, 13, 51] (fun _ _ _ v51 wr => ∃ (j : Nat) (mv : Value) (L : List PtrV), j ≤ len1 ∧ v51 = .int .i64 (j : Int) ∧ AZ w wr C mv L (i + j) bw x0 L (i + j) ∧ (∀ q ∈ L, q ∈ x0) ∧ L.length ≤ 100) (fun _ _ _ v _ => len1 - (intOf v).toNat)
      case atStart => exact ⟨0, _, x0, by omega, rfl, HZ0.out, fun q h => h, by have := HLN.out; have := HS0L.out; omega⟩
      case round =>
        clear HZ0
        obtain ⟨j, mv, L, hj, rfl, hZ, hsub, hL⟩ := hrel
        by_cases hlt : j < len1
        · obtain rfl := HBD.out (by omega)
          obtain ⟨hcd, d0, d255⟩ := HCD.out j hlt
          have gx := hcd wr hZ.co.bel
          obtain ⟨d, hd⟩ : ∃ d, x1.getD j 0 = d := ⟨_, rfl⟩
          rw [hd] at gx d0 d255
          have hix1 := index_u8a bd od len1 cap1 j hlt
          have jI : (j : Int) < (len1 : Int) := by omega
          have j0 : (0 : Int) ≤ (j : Int) := by omega
          clear hcd hd
          by_cases hz0 : i = 0
          · have hzb : ((i : Int) == 0) = true := by rw [hz0]; rfl
            obtain ⟨D, ho, hmz⟩ := hZ.om
            have HCO := Lib.hid hZ.co
            have HSUB := Lib.hid hsub
            have HLL := Lib.hid hL
            have HMZ := Lib.hid hmz
            have HSD := Lib.hid (show Maps.size D ≤ 100 by rw [size_mapZ ho hmz]; unfold distinct; have := allL_short x0; have := HLN.out; have := HS0L.out; omega)
            have HCW := Lib.hid (show ∀ g ∈ C :: mbl mv, g < wr.heap.size from fun g hg => by
              rcases List.mem_cons.1 hg with e | e
              · subst e; exact hZ.co.lt
              · exact (hZ.co.map.lt _ e).1)
            have HW0 := Lib.hid hZ.co.bel.size
            clear hZ hsub hL hmz hj hlt d0 d255 hz0
            go_wp2_with (first
              | (at_range; refine wpList_range_own _ rfl _ 66 rfl 57 3 keyed_ptr Try.underlying66 _ bw (i + j) D rfl ho ?_; intro w0 hrg0 hg0 hs0))
            try go_frame
            clear gx hix1
            obtain ⟨r0, hr0⟩ : ∃ r0, wr.heap.size = r0 := ⟨_, rfl⟩
            have HC0 := Lib.hid (HCO.out.touch (l := []) (Touch.grown hg0) (fun _ _ => by simp) (fun _ hg => by simp at hg))
            rw [hr0] at hrg0 HCW HW0 ⊢
            clear hr0 hs0 hg0 ho HCO
            go_loopw [14, 16] (fun v14 _ wr => ∃ (left : Lit → Bool) (cnt : Nat) (ss : List PtrV), wr.ranges Try.prog 57 (plainElem Try.prog 3) bw r0 (i + j) D left cnt ∧ ss.length + cnt ≤ Maps.size D ∧ CollP D left ss ∧ v14 = .int .i64 ((posN L ss : Nat) : Int) ∧ CO w wr C mv L (i + j)) (fun _ _ wr => wr.rangeLeft bw r0)
            case atStart => exact ⟨_, _, [], hrg0, by simp, CollP.start D, rfl, HC0.out⟩
            case round =>
              clear HC0 hrg0
              obtain ⟨left, cnt, ss, hrg, hcs, hC, rfl, hco⟩ := hrel
              go_wp2_with (first
                | (at_next; refine wpList_next_ranges _ rfl _ rfl 57 keyed_ptr (plainElem Try.prog 3) encP id (fun key kl hk => by obtain ⟨x, hx, _⟩ := key_inv hk; exact ⟨x, hx⟩) (fun v _ _ => ⟨v, rfl⟩) bw r0 (i + j) _ _ _ rfl hrg ?_ ?_))
              · intro hc0 hl0
                have HK := Lib.hid (show posN L ss = distinct L from posN_all hC.1 (fun q hq => (hC.2 q).2 ⟨by rw [(HMZ.out.2 q).1]; exact decide_eq_true (HSUB.out q hq), hl0 _⟩))
                have HPL := Lib.hid (plen8 w wr C _ mv L hco)
                have HPA := Lib.hid (pall8 w wr C _ mv L hco (by unfold distinct; have := allL_short L; have := HLL.out; omega))
                have HDL := Lib.hid (show distinct L ≤ 100 by unfold distinct; have := allL_short L; have := HLL.out; omega)
                have HB := Lib.hid hco.bel
                rw [HK.out]
                obtain ⟨dn, hdn⟩ : ∃ dn, distinct L = dn := ⟨_, rfl⟩
                rw [hdn] at HPL HDL ⊢
                have HDN := Lib.hid (show (allL L).length = dn from hdn)
                have dI : (dn : Int) ≤ 100 := by have := HDL.out; omega
                clear hdn hco hC hrg hcs hc0 hl0 HK HSD HMZ HSUB HLL
                go_wp2_with fail
                refine HPL.out.mono ?_
                rintro e wl ⟨rfl, rfl⟩
                go_wp2_with fail
                refine HPA.out.mono ?_
                rintro e wa ⟨v, rfl, hA, hbA⟩
                obtain ⟨a9, c9, e9, _⟩ := ps_own hA.1
                rw [HDN.out] at e9
                subst e9
                have HBA := Lib.hid (HB.out.trans (hbA.mono HB.out.size))
                clear hA hbA HPL HPA
                go_wp2_with fail
                go_ret
                exact ⟨rfl, HBA.out⟩
              · intro x c kl0 yd yp w2 cnt2 hkey hlk hv hat hrg2 hlt2 hg2 hs2 hen
                obtain ⟨x', ex, rfl⟩ := key_inv hkey
                obtain rfl : x = x' := encP_inj ex
                obtain ⟨cv, hcv, hyy, _⟩ := plainElem_int_inv Try.underlying3 hv
                obtain ⟨rfl, rfl⟩ := Prod.mk.inj hyy
                clear hyy
                have hcc : cv = (L.count x : Int) := by
                  have h1 := hat (.lit (.int .i64 0))
                  rw [(HMZ.out.2 x).2] at h1
                  simpa using h1.symm
                replace hcv : c = .int .i64 cv := hcv
                subst hcv hcc
                have hco2 := co_grown hco hg2 HCW.out HW0.out
                have hgn := grown_new w2 ZA (ptrRow x).toArray
                obtain ⟨hnw, hbw⟩ := new_row8 w2 ZA (ptrRow x).toArray
                have hrg3 := hrg2.kept hgn (by simp) (by simp)
                have hco3 := hco2.below hbw
                have HC2 := Lib.hid (hC.step hlk hat)
                have HCS := Lib.hid (show (ss ++ [x]).length + cnt2 ≤ Maps.size D by rw [List.length_append]; simp only [List.length_cons, List.length_nil]; omega)
                have HR0 := Lib.hid hrg
                have HLT2 := Lib.hid hlt2
                have SZX := Lib.hid (size_ptrA x)
                have EZX := Lib.hid (HZL.out x)
                have ONX := Lib.hid (ptrRow_one x)
                have HPS := Lib.hid (posN_step L ss x)
                have HPB := Lib.hid (show posN L ss ≤ 100 by have : posN L ss ≤ ss.length := List.countP_le_length; have := HSD.out; omega)
                obtain ⟨pn, hpn⟩ : ∃ pn, posN L ss = pn := ⟨_, rfl⟩
                rw [hpn] at HPS HPB ⊢
                have pI : (pn : Int) ≤ 100 := by have := HPB.out; omega
                have p0 : (0 : Int) ≤ (pn : Int) := by omega
                unfold encP at hen
                try unfold encP
                try dsimp only [id] at hen
                try dsimp only [id]
                obtain ⟨cq, hcq⟩ : ∃ cq : Nat, L.count x = cq := ⟨_, rfl⟩
                have HCB := Lib.hid (show cq ≤ 100 by have := List.count_le_length (a := x) (l := L); have := HLL.out; omega)
                rw [hcq] at hen HPS
                try rw [hcq]
                have HCQ := Lib.hid hcq
                clear hkey hlk hv hat hg2 hs2 hgn hbw hco hco2 hC hrg hcs hlt2 hpn hcq ex hrg2
                go_upto_region 31 with (first
                  | (with_reducible refine wpList_store_row (o := ⟨none, .store _ (.tmp 15) _, _, _, _, _⟩) rfl 57 _ _ rfl w2.heap.size (ptrRow x).toArray rfl rfl 57 ZA (heap_alloc_new w2 _) SZX.out EZX.out ONX.out ?_))
                clear hen
                generalize World.setRow _ w2.heap.size _ = w3 at *
                have HNW := Lib.hid hnw
                have HR3 := Lib.hid hrg3
                have HC3 := Lib.hid hco3
                have HOF := Lib.hid (pof8 w w3 C (i + j) mv L x hco3)
                rw [HCQ.out] at HOF
                clear hnw hrg3 hco3 EZX ONX
                have cI : (cq : Int) ≤ 100 := by have := HCB.out; omega
                have c0' : (0 : Int) ≤ (cq : Int) := by omega
                by_cases hp : 0 < cq
                · have HPN := Lib.hid (show posN L (ss ++ [x]) = pn + 1 by rw [HPS.out, if_pos hp])
                  have hpb : decide (0 < cq) = true := decide_eq_true hp
                  clear hp HPS
                  go_wp2_with (first
                    | (with_reducible refine wpList_load_row (o := ⟨some 106, _, _, _, _, _⟩) rfl 57 _ rfl w2.heap.size rfl 57 (ptrRow x).toArray (0, 0) _ HNW.out Try.underlying57 rfl SZX.out ?_))
                  refine HOF.out.mono ?_
                  rintro e w4 ⟨rfl, hb4⟩
                  have HR4 := Lib.hid (HR3.out.kept (below_grownBy hb4) (by simp) (by simp))
                  have HC4 := Lib.hid (HC3.out.below hb4)
                  clear hb4 HOF HC3 HR3 HNW
                  go_wp2_with fail
                  go_roundw
                  case rel => exact ⟨_, cnt2, ss ++ [x], HR4.out, HCS.out, HC2.out, by rw [HPN.out]; go_num, HC4.out⟩
                  case measure => rw [HR4.out.left_eq, HR0.out.left_eq]; exact HLT2.out
                · have HPN := Lib.hid (show posN L (ss ++ [x]) = pn by rw [HPS.out, if_neg hp]; rfl)
                  have hpb : decide (0 < cq) = false := decide_eq_false hp
                  clear hp HPS
                  go_wp2_with (first
                    | (with_reducible refine wpList_load_row (o := ⟨some 106, _, _, _, _, _⟩) rfl 57 _ rfl w2.heap.size rfl 57 (ptrRow x).toArray (0, 0) _ HNW.out Try.underlying57 rfl SZX.out ?_))
                  refine HOF.out.mono ?_
                  rintro e w4 ⟨rfl, hb4⟩
                  have HR4 := Lib.hid (HR3.out.kept (below_grownBy hb4) (by simp) (by simp))
                  have HC4 := Lib.hid (HC3.out.below hb4)
                  clear hb4 HOF HC3 HR3 HNW
                  go_wp2_with fail
                  go_roundw
                  case rel => exact ⟨_, cnt2, ss ++ [x], HR4.out, HCS.out, HC2.out, by rw [HPN.out], HC4.out⟩
                  case measure => rw [HR4.out.left_eq, HR0.out.left_eq]; exact HLT2.out
          · have hne : ((i : Int) == 0) = false := beq_eq_false_iff_ne.2 (by omega)
            have hnz : ¬ (i : Int) = 0 := by omega
            have xd : IntKind.i64.wrap d = d := IntWalk.i64_in _ (by omega)
            obtain ⟨m, hm⟩ : ∃ m : Nat, d.tmod (i : Int) = (m : Int) := ⟨(d % (i : Int)).toNat, by rw [Int.tmod_eq_emod_of_nonneg (by omega), Int.toNat_of_nonneg (Int.emod_nonneg _ (by omega))]⟩
            have hm5 : m < i := by have := Int.emod_lt_of_pos d (show (0 : Int) < (i : Int) by omega); rw [Int.tmod_eq_emod_of_nonneg (by omega)] at hm; omega
            have HLJ := Lib.hid hlt
            replace hlt := hm5
            obtain ⟨b, off, q, rfl, hxi, hrg⟩ := ptrs_at HSL.out hZ.co.bel hlt
            have hix := index_ptr b off i cap0 m hlt
            have SWC := Lib.hid (size_ptr q)
            have SZ := Lib.hid (size_ptr q)
            have SWR := Lib.hid (size_ptrA q)
            have EW := Lib.hid (HZL.out q)
            have WO := Lib.hid (ptrRow_one q)
            have HRG := Lib.hid hrg
            have HLT := Lib.hid hlt
            have mI' : (m : Int) < (i : Int) := by omega
            have m0' : (0 : Int) ≤ (m : Int) := by omega
            have HZ := Lib.hid hZ
            have HSUB := Lib.hid hsub
            have HLL := Lib.hid hL
            have HQX := Lib.hid (List.mem_of_getElem? hxi)
            obtain ⟨cq, hcq⟩ : ∃ cq : Nat, L.count q = cq := ⟨_, rfl⟩
            have HCQ := Lib.hid hcq
            have HCL := Lib.hid (show cq ≤ 100 by have := List.count_le_length (a := q) (l := L); omega)
            clear hj hlt hrg hxi hZ hsub hL hz0 hm5 hcq
            go_upto_region 19 with (first
              | (with_reducible refine wpList_load_mid (op := ⟨some 65, _, _, _, _, _⟩) rfl 57 _ rfl b (off + m * 34) rfl (ptrRow q) _ HRG.out Try.underlying57 rfl SWC.out ?_)
              | (with_reducible refine wpList_store_row (o := ⟨none, .store _ (.tmp 11) _, _, _, _, _⟩) rfl 57 _ _ rfl wr.heap.size (ptrRow q).toArray rfl rfl 57 ZA (heap_alloc_new wr _) SWR.out EW.out WO.out ?_))
            clear hix
            obtain ⟨h7, hb7⟩ := new_row8 wr ZA (ptrRow q).toArray
            generalize World.setRow _ wr.heap.size _ = w7 at *
            have H7 := Lib.hid h7
            have HZ7 := Lib.hid (HZ.out.below hb7)
            have HTL := Lib.hid (show wr.heap.size < w7.heap.size from (Array.getElem?_eq_some_iff.1 h7).1)
            have HTN := Lib.hid (show wr.heap.size ≠ bw by have := HZ.out.lt; omega)
            have HTC := Lib.hid (show wr.heap.size ∉ C :: mbl mv from fun hm => by
              rcases List.mem_cons.1 hm with e | e
              · have := HZ.out.co.lt; omega
              · have := (HZ.out.co.map.lt _ e).1; omega)
            obtain ⟨T, hT⟩ : ∃ T, wr.heap.size = T := ⟨_, rfl⟩
            rw [hT] at H7 HTL HTN HTC ⊢
            clear h7 hb7 hT HRG SWC EW WO HZ
            clear gx hix1 xd hm d0 d255
            have HDR := Lib.hid (pdrop8 w w7 C (i + j) mv L q HZ7.out.co (by have := HS0L.out; have := HLJ.out; have := HS1L.out; omega) (by have := HLL.out; omega))
            rw [HCQ.out] at HDR
            have HNEQ := Lib.hid (HNE.out q)
            obtain ⟨AL, hAL⟩ : ∃ AL, ptrRow q = AL := ⟨_, rfl⟩
            rw [hAL] at H7 SWR SZ HDR HNEQ
            obtain ⟨AR, hAR⟩ : ∃ AR, AL.toArray = AR := ⟨_, rfl⟩
            rw [hAR] at H7 SWR HDR
            have HAL := Lib.hid hAR
            have HAP := Lib.hid hAL
            have HQR := Lib.hid (show (ptrRow q).toArray = AR by rw [hAL, hAR])
            clear hAL hAR
            by_cases hc0 : cq = 0
            · subst hc0
              rw [show dropA 0 = ((0 : Int), (8 : Int)) from rfl] at HDR
              have HER := Lib.hid (show L.erase q = L from List.erase_of_not_mem (List.count_eq_zero.1 HCQ.out))
              go_wp2_with (first
                | (with_reducible refine wpList_load_row (o := ⟨some 68, _, _, _, _, _⟩) rfl 57 _ rfl T rfl 57 AR (0, 0) _ H7.out Try.underlying57 rfl SWR.out ?_))
              refine HDR.out.mono ?_
              rintro e w8 ⟨rfl, hc8, ht8⟩
              have HZ8 := Lib.hid (HZ7.out.step hc8 ⟨ht8, .inl rfl⟩)
              rw [HER.out] at HZ8
              have H8 := Lib.hid ((ht8.block T HTL.out HTC.out).trans H7.out)
              have hlk : (Instr.lookup 66 (.map (some bw)) (.agg AR) false).run Try.prog w8 = .ok (.int .i64 0) w8 := by
                have := HZ8.out.look q
                rw [HQR.out, HCQ.out] at this
                exact this
              clear hc8 ht8 HDR HZ7 H7
              go_wp2_with (first
                | (with_reducible refine wpList_load_row (o := ⟨some 73, _, _, _, _, _⟩) rfl 57 _ rfl T rfl 57 AR (0, 0) _ H8.out Try.underlying57 rfl SWR.out ?_))
              go_roundw
              case rel => exact ⟨j + 1, mv, L, by have := HLJ.out; omega, by go_num, HZ8.out.more (by omega) (by omega), HSUB.out, HLL.out⟩
              case measure => simp [intOf]; have := HLJ.out; omega
            · rw [show dropA cq = ((cq : Int) - 1, (0 : Int)) by unfold dropA; rw [if_neg hc0]] at HDR
              have hcb : ((cq : Int) == 0) = false := beq_eq_false_iff_ne.2 (by omega)
              have hcb2 : (cq == 0) = false := beq_eq_false_iff_ne.2 hc0
              have hcz : ¬ (cq : Int) = 0 := by omega
              have HNC := Lib.hid (show (cq : Int) - 1 = (((L.erase q).count q : Nat) : Int) by rw [List.count_erase_self, HCQ.out]; omega)
              have HWC := Lib.hid (show IntKind.i64.wrap ((cq : Int) - 1) = (cq : Int) - 1 from IntWalk.i64_in _ (by have := HCL.out; omega))
              go_wp2_with (first
                | (with_reducible refine wpList_load_row (o := ⟨some 68, _, _, _, _, _⟩) rfl 57 _ rfl T rfl 57 AR (0, 0) _ H7.out Try.underlying57 rfl SWR.out ?_))
              refine HDR.out.mono ?_
              rintro e w8 ⟨rfl, hc8, ht8⟩
              have HZ8 := Lib.hid (HZ7.out.step hc8 ⟨ht8, .inl rfl⟩)
              have H8 := Lib.hid ((ht8.block T HTL.out HTC.out).trans H7.out)
              have hlk : (Instr.lookup 66 (.map (some bw)) (.agg AR) false).run Try.prog w8 = .ok (.int .i64 (cq : Int)) w8 := by
                have := HZ8.out.look q
                rw [HQR.out, HCQ.out] at this
                exact this
              clear hc8 ht8 HDR HZ7 H7
              go_upto_region 23 with (first
                | (with_reducible refine wpList_load_row (o := ⟨some 73, _, _, _, _, _⟩) rfl 57 _ rfl T rfl 57 AR (0, 0) _ H8.out Try.underlying57 rfl SWR.out ?_))
              clear hlk
              have hrr : w8.rangeAt T 0 AL := range_of_row (by rw [HAL.out]; exact H8.out)
              obtain ⟨v0, st, o1, o2, e1, e2, e3, e4, e5, e6, e7, e8⟩ := az_put (T := T) (AL := AL) (A' := x0) (M' := L.erase q) (q := q) (c := (cq : Int) - 1) HZ8.out (by have := HS0L.out; have := HLJ.out; have := HS1L.out; omega) hrr HTN.out HNC.out (by have := HCL.out; omega) (fun p => ⟨.inl, fun h => h.elim id (fun e => e ▸ HQX.out)⟩) (fun p hp => List.count_erase_of_ne hp)
              rw [HCQ.out] at e2 e3
              rw [HQR.out] at e1 e2 e3
              have HME := Lib.hid e1
              have HLA := Lib.hid e2
              have HLB := Lib.hid e3
              have HES := Lib.hid e4
              have HSE := Lib.hid (And.intro e5 e6)
              have HS0 := Lib.hid (show w8.drew.rangeAt T 0 AL from range_below hrr (Below.refl _ w8).drew)
              have HZE := Lib.hid e7
              have HHE := Lib.hid e8
              clear hrr e1 e2 e3 e4 e5 e6 e7 e8 hc0
              generalize hwE : ChangeMaps.setBlock w8.drew bw o1 = wE at *
              generalize hwF : ChangeMaps.setBlock wE bw o2 = wF at *
              clear hwE hwF
              try simp only [Act.put]
              refine wp_region_noPanic ?_
              refine wp_region_held_drew (S := fun W => W.rangeAt T 0 AL) (by kernel_rfl) (HS0.out) (fun hHeld => ?_)
              refine wpAnyH_take (i := 0) (oi := ⟨some 82, _, _, _, _, _⟩) (v := ?_) rfl (by kernel_rfl) (by decide +kernel) (by decide +kernel) (fun _ _ _ h => h) (Or.inl ⟨by rfl, ?_⟩) (by assumption) ?_
              rotate_left 1
              · (intro w' hSw; go_simp; try with_reducible rfl)
              try simp only [Act.put, List.setIfInBounds_toArray, List.set_cons_zero, List.set_cons_succ]
              refine wpAnyH_take (i := 1) (oi := ⟨some 83, _, _, _, _, _⟩) rfl (by kernel_rfl) (by decide +kernel) (by decide +kernel) (fun _ _ _ h => h) (yieldsIf_load_mid (by rfl) _ _ rfl T 0 rfl AL _ (fun w' h => h) Try.underlying57 rfl SZ.out) (by assumption) ?_
              try simp only [Act.put, List.setIfInBounds_toArray, List.set_cons_zero, List.set_cons_succ]
              rw [HAL.out]
              refine wpAnyH_ready (rs := [2, 4]) (by decide +kernel) (by simp) ?_
              refine AllReadyH.cons rfl (fun K hK => ?_) (AllReadyH.cons rfl (fun K hK => ?_) AllReadyH.nil)
              · have hlk := HLA.out
                go_simp
                refine hK.out _ _ HS0.out (fun hHeld => ?_)
                clear hK K hlk
                try simp only [Act.put, List.setIfInBounds_toArray, List.set_cons_zero, List.set_cons_succ]
                have hwc := HWC.out
                refine wpAnyH_take (i := 3) (oi := ⟨some 85, _, _, _, _, _⟩) (v := ?_) rfl (by kernel_rfl) (by decide +kernel) (by decide +kernel) (fun _ _ _ h => h) (Or.inl ⟨by rfl, ?_⟩) (by assumption) ?_
                rotate_left 1
                · (intro w' hSw; go_simp; try with_reducible rfl)
                try simp only [Act.put, List.setIfInBounds_toArray, List.set_cons_zero, List.set_cons_succ]
                clear hwc
                refine wpAnyH_ready (rs := [4]) (by decide +kernel) (by simp) ?_
                refine AllReadyH.cons rfl (fun K hK => ?_) AllReadyH.nil
                have hme := HME.out
                go_simp
                refine hK.out _ _ HSE.out.1 (fun hHeld => ?_)
                clear hK K hme
                try simp only [Act.put, List.setIfInBounds_toArray, List.set_cons_zero, List.set_cons_succ]
                refine wpAnyH_take (i := 5) (oi := ⟨some 87, _, _, _, _, _⟩) (v := ?_) rfl (by kernel_rfl) (by decide +kernel) (by decide +kernel) (fun _ _ _ h => h) (Or.inl ⟨by rfl, ?_⟩) (by assumption) ?_
                rotate_left 1
                · (intro w' hSw; go_simp; try with_reducible rfl)
                try simp only [Act.put, List.setIfInBounds_toArray, List.set_cons_zero, List.set_cons_succ]
                refine wpAnyH_ready (rs := [6]) (by decide +kernel) (by simp) ?_
                refine AllReadyH.cons rfl (fun K hK => ?_) AllReadyH.nil
                rw [if_pos (by kernel_rfl)]
                have hes := HES.out
                go_simp
                refine hK.out _ _ HSE.out.2 (fun hHeld => ?_)
                clear hK K hes hHeld
                refine wpAnyH_done (by decide +kernel) ?_ _
                refine NoPanic.normal ?_
                have H9 := Lib.hid ((HHE.out T HTN.out).trans H8.out)
                have hlk9 : (Instr.lookup 66 (.map (some bw)) (.agg AR) false).run Try.prog wF = .ok (.int .i64 ((cq : Int) - 1)) wF := by
                  have := HZE.out.look q
                  rw [HQR.out, ← HNC.out] at this
                  exact this
                go_wp2_with (first
                  | (with_reducible refine wpList_load_guarded (o := ⟨some 93, _, _, _, _, _⟩) (by kernel_rfl) 57 _ rfl T rfl 57 AR (0, 0) _ H9.out Try.underlying57 rfl SWR.out ?_))
                go_roundw
                case rel => exact ⟨j + 1, mv, L.erase q, by have := HLJ.out; omega, by go_num, HZE.out, fun p hp => HSUB.out p (List.mem_of_mem_erase hp), Nat.le_trans List.length_erase_le HLL.out⟩
                case measure => simp [intOf]; have := HLJ.out; omega
              · have hme := HME.out
                go_simp
                refine hK.out _ _ HSE.out.1 (fun hHeld => ?_)
                clear hK K hme
                try simp only [Act.put, List.setIfInBounds_toArray, List.set_cons_zero, List.set_cons_succ]
                refine wpAnyH_take (i := 5) (oi := ⟨some 87, _, _, _, _, _⟩) (v := ?_) rfl (by kernel_rfl) (by decide +kernel) (by decide +kernel) (fun _ _ _ h => h) (Or.inl ⟨by rfl, ?_⟩) (by assumption) ?_
                rotate_left 1
                · (intro w' hSw; go_simp; try with_reducible rfl)
                try simp only [Act.put, List.setIfInBounds_toArray, List.set_cons_zero, List.set_cons_succ]
                refine wpAnyH_ready (rs := [2]) (by decide +kernel) (by simp) ?_
                refine AllReadyH.cons rfl (fun K hK => ?_) AllReadyH.nil
                have hlk := HLB.out
                go_simp
                refine hK.out _ _ HSE.out.1 (fun hHeld => ?_)
                clear hK K hlk
                try simp only [Act.put, List.setIfInBounds_toArray, List.set_cons_zero, List.set_cons_succ]
                have hwc := HWC.out
                refine wpAnyH_take (i := 3) (oi := ⟨some 85, _, _, _, _, _⟩) (v := ?_) rfl (by kernel_rfl) (by decide +kernel) (by decide +kernel) (fun _ _ _ h => h) (Or.inl ⟨by rfl, ?_⟩) (by assumption) ?_
                rotate_left 1
                · (intro w' hSw; go_simp; try with_reducible rfl)
                try simp only [Act.put, List.setIfInBounds_toArray, List.set_cons_zero, List.set_cons_succ]
                clear hwc
                refine wpAnyH_ready (rs := [6]) (by decide +kernel) (by simp) ?_
                refine AllReadyH.cons rfl (fun K hK => ?_) AllReadyH.nil
                rw [if_pos (by kernel_rfl)]
                have hes := HES.out
                go_simp
                refine hK.out _ _ HSE.out.2 (fun hHeld => ?_)
                clear hK K hes hHeld
                refine wpAnyH_done (by decide +kernel) ?_ _
                refine NoPanic.normal ?_
                have H9 := Lib.hid ((HHE.out T HTN.out).trans H8.out)
                have hlk9 : (Instr.lookup 66 (.map (some bw)) (.agg AR) false).run Try.prog wF = .ok (.int .i64 ((cq : Int) - 1)) wF := by
                  have := HZE.out.look q
                  rw [HQR.out, ← HNC.out] at this
                  exact this
                go_wp2_with (first
                  | (with_reducible refine wpList_load_guarded (o := ⟨some 93, _, _, _, _, _⟩) (by kernel_rfl) 57 _ rfl T rfl 57 AR (0, 0) _ H9.out Try.underlying57 rfl SWR.out ?_))
                go_roundw
                case rel => exact ⟨j + 1, mv, L.erase q, by have := HLJ.out; omega, by go_num, HZE.out, fun p hp => HSUB.out p (List.mem_of_mem_erase hp), Nat.le_trans List.length_erase_le HLL.out⟩
                case measure => simp [intOf]; have := HLJ.out; omega
        · obtain rfl : j = len1 := by omega
          obtain ⟨D, ho, hmz⟩ := hZ.om
          have HCO := Lib.hid hZ.co
          have HSUB := Lib.hid hsub
          have HLL := Lib.hid hL
          have HMZ := Lib.hid hmz
          have HSD := Lib.hid (show Maps.size D ≤ 100 by rw [size_mapZ ho hmz]; unfold distinct; have := allL_short x0; have := HLN.out; have := HS0L.out; omega)
          have HCW := Lib.hid (show ∀ g ∈ C :: mbl mv, g < wr.heap.size from fun g hg => by
            rcases List.mem_cons.1 hg with e | e
            · subst e; exact hZ.co.lt
            · exact (hZ.co.map.lt _ e).1)
          have HW0 := Lib.hid hZ.co.bel.size
          clear hZ hsub hL hmz hj hlt
          go_wp2_with (first
            | (at_range; refine wpList_range_own _ rfl _ 66 rfl 57 3 keyed_ptr Try.underlying66 _ bw (i + j) D rfl ho ?_; intro w0 hrg0 hg0 hs0))
          try go_frame
          obtain ⟨r0, hr0⟩ : ∃ r0, wr.heap.size = r0 := ⟨_, rfl⟩
          have HC0 := Lib.hid (HCO.out.touch (l := []) (Touch.grown hg0) (fun _ _ => by simp) (fun _ hg => by simp at hg))
          rw [hr0] at hrg0 HCW HW0 ⊢
          clear hr0 hs0 hg0 ho HCO
          go_loopw [14, 16] (fun v14 _ wr => ∃ (left : Lit → Bool) (cnt : Nat) (ss : List PtrV), wr.ranges Try.prog 57 (plainElem Try.prog 3) bw r0 (i + j) D left cnt ∧ ss.length + cnt ≤ Maps.size D ∧ CollP D left ss ∧ v14 = .int .i64 ((posN L ss : Nat) : Int) ∧ CO w wr C mv L (i + j)) (fun _ _ wr => wr.rangeLeft bw r0)
          case atStart => exact ⟨_, _, [], hrg0, by simp, CollP.start D, rfl, HC0.out⟩
          case round =>
            clear HC0 hrg0
            obtain ⟨left, cnt, ss, hrg, hcs, hC, rfl, hco⟩ := hrel
            go_wp2_with (first
              | (at_next; refine wpList_next_ranges _ rfl _ rfl 57 keyed_ptr (plainElem Try.prog 3) encP id (fun key kl hk => by obtain ⟨x, hx, _⟩ := key_inv hk; exact ⟨x, hx⟩) (fun v _ _ => ⟨v, rfl⟩) bw r0 (i + j) _ _ _ rfl hrg ?_ ?_))
            · intro hc0 hl0
              have HK := Lib.hid (show posN L ss = distinct L from posN_all hC.1 (fun q hq => (hC.2 q).2 ⟨by rw [(HMZ.out.2 q).1]; exact decide_eq_true (HSUB.out q hq), hl0 _⟩))
              have HPL := Lib.hid (plen8 w wr C _ mv L hco)
              have HPA := Lib.hid (pall8 w wr C _ mv L hco (by unfold distinct; have := allL_short L; have := HLL.out; omega))
              have HDL := Lib.hid (show distinct L ≤ 100 by unfold distinct; have := allL_short L; have := HLL.out; omega)
              have HB := Lib.hid hco.bel
              rw [HK.out]
              obtain ⟨dn, hdn⟩ : ∃ dn, distinct L = dn := ⟨_, rfl⟩
              rw [hdn] at HPL HDL ⊢
              have HDN := Lib.hid (show (allL L).length = dn from hdn)
              have dI : (dn : Int) ≤ 100 := by have := HDL.out; omega
              clear hdn hco hC hrg hcs hc0 hl0 HK HSD HMZ HSUB HLL
              go_wp2_with fail
              refine HPL.out.mono ?_
              rintro e wl ⟨rfl, rfl⟩
              go_wp2_with fail
              refine HPA.out.mono ?_
              rintro e wa ⟨v, rfl, hA, hbA⟩
              obtain ⟨a9, c9, e9, _⟩ := ps_own hA.1
              rw [HDN.out] at e9
              subst e9
              have HBA := Lib.hid (HB.out.trans (hbA.mono HB.out.size))
              clear hA hbA HPL HPA
              go_wp2_with fail
              go_ret
              exact ⟨rfl, HBA.out⟩
            · intro x c kl0 yd yp w2 cnt2 hkey hlk hv hat hrg2 hlt2 hg2 hs2 hen
              obtain ⟨x', ex, rfl⟩ := key_inv hkey
              obtain rfl : x = x' := encP_inj ex
              obtain ⟨cv, hcv, hyy, _⟩ := plainElem_int_inv Try.underlying3 hv
              obtain ⟨rfl, rfl⟩ := Prod.mk.inj hyy
              clear hyy
              have hcc : cv = (L.count x : Int) := by
                have h1 := hat (.lit (.int .i64 0))
                rw [(HMZ.out.2 x).2] at h1
                simpa using h1.symm
              replace hcv : c = .int .i64 cv := hcv
              subst hcv hcc
              have hco2 := co_grown hco hg2 HCW.out HW0.out
              have hgn := grown_new w2 ZA (ptrRow x).toArray
              obtain ⟨hnw, hbw⟩ := new_row8 w2 ZA (ptrRow x).toArray
              have hrg3 := hrg2.kept hgn (by simp) (by simp)
              have hco3 := hco2.below hbw
              have HC2 := Lib.hid (hC.step hlk hat)
              have HCS := Lib.hid (show (ss ++ [x]).length + cnt2 ≤ Maps.size D by rw [List.length_append]; simp only [List.length_cons, List.length_nil]; omega)
              have HR0 := Lib.hid hrg
              have HLT2 := Lib.hid hlt2
              have SZX := Lib.hid (size_ptrA x)
              have EZX := Lib.hid (HZL.out x)
              have ONX := Lib.hid (ptrRow_one x)
              have HPS := Lib.hid (posN_step L ss x)
              have HPB := Lib.hid (show posN L ss ≤ 100 by have : posN L ss ≤ ss.length := List.countP_le_length; have := HSD.out; omega)
              obtain ⟨pn, hpn⟩ : ∃ pn, posN L ss = pn := ⟨_, rfl⟩
              rw [hpn] at HPS HPB ⊢
              have pI : (pn : Int) ≤ 100 := by have := HPB.out; omega
              have p0 : (0 : Int) ≤ (pn : Int) := by omega
              unfold encP at hen
              try unfold encP
              try dsimp only [id] at hen
              try dsimp only [id]
              obtain ⟨cq, hcq⟩ : ∃ cq : Nat, L.count x = cq := ⟨_, rfl⟩
              have HCB := Lib.hid (show cq ≤ 100 by have := List.count_le_length (a := x) (l := L); have := HLL.out; omega)
              rw [hcq] at hen HPS
              try rw [hcq]
              have HCQ := Lib.hid hcq
              clear hkey hlk hv hat hg2 hs2 hgn hbw hco hco2 hC hrg hcs hlt2 hpn hcq ex hrg2
              go_upto_region 31 with (first
                | (with_reducible refine wpList_store_row (o := ⟨none, .store _ (.tmp 15) _, _, _, _, _⟩) rfl 57 _ _ rfl w2.heap.size (ptrRow x).toArray rfl rfl 57 ZA (heap_alloc_new w2 _) SZX.out EZX.out ONX.out ?_))
              clear hen
              generalize World.setRow _ w2.heap.size _ = w3 at *
              have HNW := Lib.hid hnw
              have HR3 := Lib.hid hrg3
              have HC3 := Lib.hid hco3
              have HOF := Lib.hid (pof8 w w3 C (i + j) mv L x hco3)
              rw [HCQ.out] at HOF
              clear hnw hrg3 hco3 EZX ONX
              have cI : (cq : Int) ≤ 100 := by have := HCB.out; omega
              have c0' : (0 : Int) ≤ (cq : Int) := by omega
              by_cases hp : 0 < cq
              · have HPN := Lib.hid (show posN L (ss ++ [x]) = pn + 1 by rw [HPS.out, if_pos hp])
                have hpb : decide (0 < cq) = true := decide_eq_true hp
                clear hp HPS
                go_wp2_with (first
                  | (with_reducible refine wpList_load_row (o := ⟨some 106, _, _, _, _, _⟩) rfl 57 _ rfl w2.heap.size rfl 57 (ptrRow x).toArray (0, 0) _ HNW.out Try.underlying57 rfl SZX.out ?_))
                refine HOF.out.mono ?_
                rintro e w4 ⟨rfl, hb4⟩
                have HR4 := Lib.hid (HR3.out.kept (below_grownBy hb4) (by simp) (by simp))
                have HC4 := Lib.hid (HC3.out.below hb4)
                clear hb4 HOF HC3 HR3 HNW
                go_wp2_with fail
                go_roundw
                case rel => exact ⟨_, cnt2, ss ++ [x], HR4.out, HCS.out, HC2.out, by rw [HPN.out]; go_num, HC4.out⟩
                case measure => rw [HR4.out.left_eq, HR0.out.left_eq]; exact HLT2.out
              · have HPN := Lib.hid (show posN L (ss ++ [x]) = pn by rw [HPS.out, if_neg hp]; rfl)
                have hpb : decide (0 < cq) = false := decide_eq_false hp
                clear hp HPS
                go_wp2_with (first
                  | (with_reducible refine wpList_load_row (o := ⟨some 106, _, _, _, _, _⟩) rfl 57 _ rfl w2.heap.size rfl 57 (ptrRow x).toArray (0, 0) _ HNW.out Try.underlying57 rfl SZX.out ?_))
                refine HOF.out.mono ?_
                rintro e w4 ⟨rfl, hb4⟩
                have HR4 := Lib.hid (HR3.out.kept (below_grownBy hb4) (by simp) (by simp))
                have HC4 := Lib.hid (HC3.out.below hb4)
                clear hb4 HOF HC3 HR3 HNW
                go_wp2_with fail
                go_roundw
                case rel => exact ⟨_, cnt2, ss ++ [x], HR4.out, HCS.out, HC2.out, by rw [HPN.out], HC4.out⟩
                case measure => rw [HR4.out.left_eq, HR0.out.left_eq]; exact HLT2.out
set_option maxRecDepth 100000 in
theorem lifted (os : Os) (started : os.Started) (H : Type) (enc : TypeId × Value → H) :
    ReturnsInHanded {} Try.checked os 11 .any (Rows.ptrAddsSpec.pre6 enc Try.prog Try.f11 Rows.ptrAddsRow.domain false) (Rows.ptrAddsSpec.post enc Try.prog Try.f11 false true false false) := by
  refine returnsInHanded_of_change_sized (C := Try.checked) own started (by kernel_rfl) Try.func11
    (ChangeSpec.witness6 (enc := enc) (C := Try.checked) false ⟨#[], #[.slice none 0 0, .slice none 0 0], []⟩ 8 (by kernel_rfl) (by kernel_rfl) (by kernel_rfl) (by kernel_rfl)) ?_
  intro W base args ds gs before hval0 hW hcnd hsz0 _
  have hsz : (DataW.weightsEach Try.prog (Try.f11.params.toList ++ Rows.ptrAddsSpec.plain.varTypes Try.prog) (ds ++ gs)).all (· ≤ reachBytes) = true := hsz0
  clear hsz0
  have hval : ∀ (j : Nat) t v, Try.f11.params[j]? = some t → args[j]? = some v → Value.okWide Try.prog W .any base t v := hval0
  have hW' := hW
  obtain ⟨p, q, hA0, hV, rfl, hfz, hnd⟩ := hW
  have hA : DataW.TrodAll enc Try.prog W 0 (fun _ => true) true Try.f11.params.toList args.toList ds p := hA0
  rw [Try.params11] at hA hval hsz
  obtain ⟨v0, vs0, d0, ds0, p0, q0, hargs, rfl, rfl, h0, r0⟩ := trodAll_cons hA
  obtain ⟨v1, vs1, d1, ds1, p1, q1, rfl, rfl, rfl, h1, r1⟩ := trodAll_cons r0
  obtain ⟨rfl, rfl, rfl⟩ := trodAll_nil r1
  obtain rfl : args = #[v0, v1] := by cases args; simp_all
  obtain ⟨rfl, rfl⟩ := trodVars_none hV
  have k0 := h0
  have lt0 : ∀ x ∈ p0, x.block < W.heap.size := by obtain ⟨m, hm⟩ := k0; exact DataW.trod_lt m _ _ _ hm
  have k1 := h1
  have lt1 : ∀ x ∈ p1, x.block < W.heap.size := by obtain ⟨m, hm⟩ := k1; exact DataW.trod_lt m _ _ _ hm
  obtain ⟨x0, a0, len0, cap0, rfl, sl0⟩ := par_slice (j := 0) Try.underlying23 opn_ptrs (hval 0 23 v0 rfl rfl) h0 hsz rfl rfl
  obtain ⟨a1, len1, cap1, x1, rfl, e1, m1, n1, b1⟩ := par_bytes (j := 1) (hval 1 28 v1 rfl rfl) h1 hsz rfl rfl
  clear hA0 hval0
  simp only [List.append_nil] at hW'
  refine (walk W a0 len0 cap0 x0 sl0 a1 len1 cap1 x1 e1 m1 n1 b1).mono fun e W' ⟨he, bel⟩ => ?_
  subst he
  exact ⟨_, rfl, _, _, _, [], _, [], hW', trodAll_mk1 (shut_bool Try.underlying4 _), (trodAll_cons_mk (Below.trod laidOut (by kernel_rfl) (of_decide_eq_true (by kernel_rfl)) k0 bel lt0) (trodAll_cons_mk (Below.trod laidOut (by kernel_rfl) (of_decide_eq_true (by kernel_rfl)) k1 bel lt1) trodAll_mk0)), rfl, bel.frame _, fun h => by cases h⟩

theorem over : Rows.ptrAddsRow.holds Try.pinned (OpenSpec.ofChange Rows.ptrAddsSpec) :=
  OpenClaim.holds_of_wide 11 Try.f11 rfl rfl rfl rfl rfl rfl rfl ⟨rfl, rfl, rfl, rfl, rfl⟩ rfl rfl rfl rfl rfl (by kernel_rfl) Try.func11 (by kernel_rfl)
    (of_decide_eq_true (by kernel_rfl)) (by unfold Func.isWrapper; first | (rw [if_pos (by decide +kernel)]; kernel_rfl) | (rw [if_neg (by decide +kernel)]; exact ⟨rfl, rfl⟩))
    (fun os started H enc _ => lifted os started H enc)

/-- The statement. -/
theorem proved : Rows.PtrAddsSaid := over
#print axioms proved
end Go.Proofs.Ytcgddhainmnebaa.ptrAdds
