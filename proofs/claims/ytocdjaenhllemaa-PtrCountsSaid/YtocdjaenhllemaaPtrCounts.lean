/-
  'PtrCounts' returns true at every input, and each argument reads behind the call as it read before. Conditions: none.
-/
import Derived.Test.YtocdjaenhllemaaRows
import Derived.Test.YtocdjaenhllemaaAes0
import Derived.Test.YtocdjaenhllemaaAc
import Derived.Deep.DeepCutAuto
namespace Go.Proofs.Ytocdjaenhllemaa.ptrCounts
open Go.ChangeShapes Go.WideShapes Go.ChangeAt Go.RowKit
set_option linter.unusedVariables false

theorem block_lt_of_range {w : World} {T : Nat} {AL : List Value} (h : w.rangeAt T 1 AL) (hn : AL ≠ []) : T < w.heap.size := by
  obtain ⟨x, r, rfl⟩ := List.exists_cons_of_ne_nil hn
  exact block_lt_of_cell (h 0 x rfl)
theorem range_touch {w w' : World} {T : Nat} {AL : List Value} {l : List Nat} (h : w.rangeAt T 1 AL) (t : Touch l w w') (hn : T ∉ l) (hT : T < w.heap.size) : w'.rangeAt T 1 AL := fun j v hj => by
  have := h j v hj
  unfold World.cell? at this ⊢
  rw [t.block T hT hn]
  exact this

set_option maxRecDepth 100000 in
set_option maxHeartbeats 3200000 in
theorem walk (w : World) (a0 : Option Addr) (len0 cap0 : Nat) (x0 : List ActV) (sl0 : SlR RActV 35 w x0 a0 len0 cap0) :
    Calls Try.prog 3 #[.slice a0 len0 cap0] w fun e w' => e = .returned (.bool true) ∧ Below w.heap.size w w' := by
  have lI : (len0 : Int) ≤ 140737488351232 := by have := sl0.big; have := sl0.cap; omega
  have l0 : (0 : Int) ≤ (len0 : Int) := by omega
  have HSL := Lib.hid sl0
  have HA := Lib.hid (alive8_any w)
  clear sl0
  by_cases hbig : 200 < len0
  · have hbI : (200 : Int) < (len0 : Int) := by omega
    clear hbig
    go_enter Try.func3, Try.ntmps3
    go_wp2_with fail
    refine HA.out.mono ?_
    rintro e w1 ⟨rfl, hb1⟩
    have HB1 := Lib.hid hb1
    clear hb1 HA
    go_wp2_with fail
    go_ret
    exact ⟨rfl, HB1.out⟩
  have hsm : (len0 : Int) ≤ 200 := by omega
  have HS0L := Lib.hid (show len0 ≤ 200 by omega)
  clear lI hbig
  have hza := zero_act
  have HZL := Lib.hid (fun x : ActV => show (actRow zeroAct).toArray.size = (actRow x).toArray.size by simp [actRow_length])
  obtain ⟨ZA, hZA⟩ : ∃ ZA, (actRow zeroAct).toArray = ZA := ⟨_, rfl⟩
  rw [hZA] at hza HZL
  clear hZA
  go_enter Try.func3, Try.ntmps3
  go_wp2_with fail
  refine HA.out.mono ?_
  rintro e w1 ⟨rfl, hb1⟩
  have HN1 := Lib.hid (pnew8 w w1 hb1)
  clear hb1 HA
  go_wp2_with fail
  refine HN1.out.mono ?_
  rintro e w2 ⟨rfl, hc2, hb2⟩
  have H3 := Lib.hid (cr_start hc2)
  clear hb2 hc2 HN1
  generalize w1.heap.size = C at *
  go_upto_region 7 with fail
  obtain ⟨M, hM⟩ : ∃ M, w2.heap.size = M := ⟨_, rfl⟩
  try rw [hM]
  rw [hM] at H3
  generalize World.alloc w2 _ = w3 at *
  clear hM
  go_wp2_with fail
  go_loopw [6, 7, 8, 9, 10, 21] (fun _ _ _ _ _ v21 wr => ∃ (i : Nat) (mv v : Value) (L : List PtrV), i ≤ len0 ∧ v21 = .int .i64 (i : Int) ∧ CR w wr C M mv v L L i ∧ L.length ≤ i) (fun _ _ _ _ _ v _ => len0 - (intOf v).toNat)
  case atStart => exact ⟨0, _, _, [], by omega, rfl, H3.out, Nat.le_refl _⟩
  case round =>
    clear H3
    obtain ⟨i, mv, v, L, hi, rfl, hW, hL⟩ := hrel
    by_cases hlt : i < len0
    · obtain ⟨b, off, x, rfl, hxi, hrg⟩ := acts_at HSL.out hW.co.bel hlt
      have hix := index_act b off len0 cap0 i hlt
      have SWC := Lib.hid (size_act x)
      have SWR := Lib.hid (size_actA x)
      have EW := Lib.hid (HZL.out x)
      have WO := Lib.hid (actRow_one x)
      have HRG := Lib.hid hrg
      have HLT := Lib.hid hlt
      have HIL := Lib.hid (show i ≤ 200 by have := HS0L.out; omega)
      have HLL0 := Lib.hid hL
      have iI : (i : Int) < (len0 : Int) := by omega
      have i0 : (0 : Int) ≤ (i : Int) := by omega
      have HW0 := Lib.hid hW
      clear hi hlt hrg hxi hW hL
      go_upto_region 9 with (first
        | (with_reducible refine wpList_load_mid (op := ⟨some 24, _, _, _, _, _⟩) rfl 37 _ rfl b (off + i * 35) rfl (actRow x) _ HRG.out Try.underlying37 rfl SWC.out ?_)
        | (with_reducible refine wpList_store_row (o := ⟨none, .store _ (.tmp 6) _, _, _, _, _⟩) rfl 37 _ _ rfl wr.heap.size (actRow x).toArray rfl rfl 37 ZA (heap_alloc_new wr _) SWR.out EW.out WO.out ?_))
      clear hix
      obtain ⟨h7, hb7⟩ := new_actrow wr ZA (actRow x).toArray
      generalize World.setRow _ wr.heap.size _ = w7 at *
      obtain ⟨o, q⟩ := x
      obtain ⟨hco, hcp⟩ := act_parts h7
      have HW7 := Lib.hid (HW0.out.below hb7)
      have HTC := Lib.hid (show wr.heap.size ∉ C :: mbl mv from fun hm => by have := (HW0.out.co.new_all _ hm).2; omega)
      have HTM := Lib.hid (show wr.heap.size ∉ M :: v.ownBlock.toList from fun hm => by have := (HW0.out.rq.new_all _ hm).2; omega)
      have SZ := Lib.hid (size_ptr q)
      have HNE := Lib.hid (show ptrRow q ≠ [] by simp [ptrRow])
      obtain ⟨T, hT⟩ : ∃ T, wr.heap.size = T := ⟨_, rfl⟩
      rw [hT] at hco hcp HTC HTM ⊢
      obtain ⟨AL, hAL⟩ : ∃ AL, ptrRow q = AL := ⟨_, rfl⟩
      rw [hAL] at hcp SZ HNE
      obtain ⟨AR, hAR⟩ : ∃ AR, AL.toArray = AR := ⟨_, rfl⟩
      have HAL := Lib.hid hAR
      have HQR := Lib.hid (show (ptrRow q).toArray = AR by rw [hAL, hAR])
      have HP7 := Lib.hid hcp
      have HLL := Lib.hid HLL0.out
      clear hAL hAR hT h7 hb7 hcp HLL0 SWC SWR EW WO HRG HW0
      go_upto_if 26 with fail
      clear hco
      go_cut [7, 8, 9, 10] from 22 to 83 (fun _ _ _ _ wx => ∃ (mv' v' : Value) (L' : List PtrV), CR w wx C M mv' v' L' L' (i + 1) ∧ L'.length ≤ i + 1 ∧ wx.rangeAt T 1 AL)
      case first =>
        cases o with
        | true =>
          have hdr := pdrop8 w w7 C i mv L q HW7.out.co (by have := HIL.out; omega) (by have := HLL.out; have := HIL.out; omega)
          have hdq := fun W h => rdrop8 w W M v L q h (by have := HLL.out; have := HIL.out; omega)
          obtain ⟨dx, hdx⟩ : ∃ dx, (dropA (L.count q)).1 = dx := ⟨_, rfl⟩
          obtain ⟨de, hde⟩ : ∃ de, (dropA (L.count q)).2 = de := ⟨_, rfl⟩
          rw [hdx, hde, HQR.out] at hdr hdq
          have HDR := Lib.hid hdr
          have HDQ := Lib.hid hdq
          clear hdr hdq hdx hde
          go_wp2_with (first
            | (with_reducible refine wpList_load_mid (op := ⟨some 30, _, _, _, _, _⟩) rfl 35 _ rfl T 1 rfl AL _ HP7.out Try.underlying35 rfl SZ.out ?_))
          rw [HAL.out]
          refine HDR.out.mono ?_
          rintro e w8 ⟨rfl, hc8, ht8⟩
          have HW8 := Lib.hid (HW7.out.stepC hc8 ⟨ht8, .inl rfl⟩)
          have HP8 := Lib.hid (range_touch HP7.out ht8 HTC.out (block_lt_of_range HP7.out HNE.out))
          clear hc8 ht8 HDR
          go_wp2_with (first
            | (with_reducible refine wpList_load_mid (op := ⟨some 37, _, _, _, _, _⟩) rfl 35 _ rfl T 1 rfl AL _ HP8.out Try.underlying35 rfl SZ.out ?_))
          rw [HAL.out]
          refine (HDQ.out _ HW8.out.rq).mono ?_
          rintro e w9 ⟨rfl, v', hq9, hs9⟩
          have HW9 := Lib.hid (HW8.out.stepR hq9 hs9)
          have HP9 := Lib.hid (range_touch HP8.out hs9.1 HTM.out (block_lt_of_range HP8.out HNE.out))
          clear hq9 hs9 HDQ
          go_wp2_with fail
          go_meet
          case rel => exact ⟨mv, v', L.erase q, HW9.out, by have := List.length_erase_le (a := q) (l := L); have := HLL.out; omega, HP9.out⟩
        | false =>
          obtain ⟨cq, hcq⟩ : ∃ cq : Nat, L.count q = cq := ⟨_, rfl⟩
          have HCQ := Lib.hid hcq
          have HNC := Lib.hid (show (((L ++ [q]).count q : Nat) : Int) = (cq : Int) + 1 by rw [List.count_append, hcq]; simp)
          clear hcq
          go_upto_region 14 with fail
          have HW7 := Lib.hid (HW7.out.below (Below.refl _ w7).drew)
          have HP7 := Lib.hid (range_below HP7.out (Below.refl _ w7).drew)
          try simp only [Act.put]
          refine wp_region_noPanic ?_
          refine wp_region_held_drew (S := fun W => W.rangeAt T 1 AL) (by kernel_rfl) (HP7.out) (fun hHeld => ?_)
          refine wpAnyH_take (i := 0) (oi := ⟨some 49, _, _, _, _, _⟩) (v := ?_) rfl (by kernel_rfl) (by decide +kernel) (by decide +kernel) (fun _ _ _ h => h) (Or.inl ⟨by rfl, ?_⟩) (by assumption) ?_
          rotate_left 1
          · (intro w' hSw; go_simp; try with_reducible rfl)
          try simp only [Act.put, List.setIfInBounds_toArray, List.set_cons_zero, List.set_cons_succ]
          refine wpAnyH_take (i := 1) (oi := ⟨some 50, _, _, _, _, _⟩) (v := ?_) rfl (by kernel_rfl) (by decide +kernel) (by decide +kernel) (fun _ _ _ h => h) (Or.inl ⟨by rfl, ?_⟩) (by assumption) ?_
          rotate_left 1
          · (intro w' hSw; go_simp; try with_reducible rfl)
          try simp only [Act.put, List.setIfInBounds_toArray, List.set_cons_zero, List.set_cons_succ]
          refine wpAnyH_take (i := 2) (oi := ⟨some 51, _, _, _, _, _⟩) rfl (by kernel_rfl) (by decide +kernel) (by decide +kernel) (fun _ _ _ h => h) (yieldsIf_load_mid (by rfl) _ _ rfl T 1 rfl AL _ (fun w' h => h) Try.underlying35 rfl SZ.out) (by assumption) ?_
          try simp only [Act.put, List.setIfInBounds_toArray, List.set_cons_zero, List.set_cons_succ]
          rw [HAL.out]
          refine wpAnyH_take (i := 4) (oi := ⟨some 53, _, _, _, _, _⟩) (v := ?_) rfl (by kernel_rfl) (by decide +kernel) (by decide +kernel) (fun _ _ _ h => h) (Or.inl ⟨by rfl, ?_⟩) (by assumption) ?_
          rotate_left 1
          · (intro w' hSw; go_simp; try with_reducible rfl)
          try simp only [Act.put, List.setIfInBounds_toArray, List.set_cons_zero, List.set_cons_succ]
          refine wpAnyH_take (i := 5) (oi := ⟨some 54, _, _, _, _, _⟩) (v := ?_) rfl (by kernel_rfl) (by decide +kernel) (by decide +kernel) (fun _ _ _ h => h) (Or.inl ⟨by rfl, ?_⟩) (by assumption) ?_
          rotate_left 1
          · (intro w' hSw; go_simp; try with_reducible rfl)
          try simp only [Act.put, List.setIfInBounds_toArray, List.set_cons_zero, List.set_cons_succ]
          refine wpAnyH_take (i := 6) (oi := ⟨some 55, _, _, _, _, _⟩) rfl (by kernel_rfl) (by decide +kernel) (by decide +kernel) (fun _ _ _ h => h) (yieldsIf_load_mid (by rfl) _ _ rfl T 1 rfl AL _ (fun w' h => h) Try.underlying35 rfl SZ.out) (by assumption) ?_
          try simp only [Act.put, List.setIfInBounds_toArray, List.set_cons_zero, List.set_cons_succ]
          rw [HAL.out]
          refine wpAnyH_ready (rs := [3]) (by decide +kernel) (by simp) ?_
          refine AllReadyH.cons rfl (fun K hK => ?_) AllReadyH.nil
          go_simp
          go_at_call 8
          have hadd := padd8 w _ C i mv L q HW7.out.co (by have := HIL.out; omega) (by have := HLL.out; have := HIL.out; omega)
          rw [HQR.out, HCQ.out] at hadd
          refine hadd.mono ?_
          clear hadd
          rintro e wtHWA ⟨rfl, mv', hct, hst⟩
          have HWA := Lib.hid (HW7.out.stepC hct hst)
          have HPA := Lib.hid (range_touch HP7.out hst.1 HTC.out (block_lt_of_range HP7.out HNE.out))
          clear hct hst
          go_wp2_with fail
          refine hK.out _ _ HPA.out (fun hHeld => ?_)
          clear hK K
          try simp only [Act.put, List.setIfInBounds_toArray, List.set_cons_zero, List.set_cons_succ]
          refine wpAnyH_ready (rs := [7]) (by decide +kernel) (by simp) ?_
          refine AllReadyH.cons rfl (fun K hK => ?_) AllReadyH.nil
          go_simp
          go_at_call 9
          have hadd := radd8 w _ M v L q HWA.out.rq (by have := HLL.out; have := HIL.out; omega)
          rw [HQR.out, HNC.out] at hadd
          refine hadd.mono ?_
          clear hadd
          rintro e wtHWB ⟨rfl, v', hct, hst⟩
          have HWB := Lib.hid (HWA.out.stepR hct hst)
          have HPB := Lib.hid (range_touch HPA.out hst.1 HTM.out (block_lt_of_range HPA.out HNE.out))
          clear hct hst
          go_wp2_with fail
          refine hK.out _ _ HPB.out (fun hHeld => ?_)
          clear hK K
          try simp only [Act.put, List.setIfInBounds_toArray, List.set_cons_zero, List.set_cons_succ]
          refine wpAnyH_take (i := 8) (oi := ⟨some 57, _, _, _, _, _⟩) (v := ?_) rfl (by kernel_rfl) (by decide +kernel) (by decide +kernel) (fun _ _ _ h => h) (Or.inl ⟨by rfl, ?_⟩) (by assumption) ?_
          rotate_left 1
          · (intro w' hSw; go_simp; try with_reducible rfl)
          try simp only [Act.put, List.setIfInBounds_toArray, List.set_cons_zero, List.set_cons_succ]
          clear hHeld
          refine wpAnyH_done (by decide +kernel) ?_ _
          refine NoPanic.normal ?_
          go_wp2_with fail
          go_meet
          case rel => exact ⟨_, _, L ++ [q], HWB.out, by rw [List.length_append]; have := HLL.out; simp only [List.length_cons, List.length_nil]; omega, HPB.out⟩
      case rest =>
        obtain ⟨mv', v', L', hW, hL, hP⟩ := hcut
        clear HP7 HW7 HTC HTM HLL
        have HLL := Lib.hid hL
        have HW := Lib.hid hW
        have HL2 := Lib.hid (show L'.length ≤ 201 by have := HIL.out; omega)
        have HD2 := Lib.hid (show distinct L' ≤ 201 by unfold distinct; have := allL_short L'; omega)
        obtain ⟨cq, hcq⟩ : ∃ cq : Nat, L'.count q = cq := ⟨_, rfl⟩
        obtain ⟨dn, hdn⟩ : ∃ dn : Nat, (allL L').length = dn := ⟨_, rfl⟩
        have HDN := Lib.hid hdn
        have HF1 := Lib.hid (fun (W : World) (hB : Below wc.heap.size wc W) => pof8 w W C (i + 1) mv' L' q (HW.out.below hB).co)
        have HF2 := Lib.hid (fun (W : World) (hB : Below wc.heap.size wc W) => rof8 w W M v' L' q (HW.out.below hB).rq (by have := HL2.out; omega))
        have HF3 := Lib.hid (fun (W : World) (hB : Below wc.heap.size wc W) => show Calls Try.prog 12 #[.pointer (some ⟨C, 0, none⟩)] W fun e W' => e = .returned (.int .i64 (dn : Int)) ∧ Below W.heap.size W W' from (plen8 w W C (i + 1) mv' L' (HW.out.below hB).co).mono fun e W' h => by obtain ⟨rfl, rfl⟩ := h; rw [← HDN.out]; exact ⟨rfl, Below.refl _ _⟩)
        have HF4 := Lib.hid (fun (W : World) (hB : Below wc.heap.size wc W) => show Calls Try.prog 13 #[.pointer (some ⟨M, 0, none⟩)] W fun e W' => ∃ a c, e = .returned (.slice a dn c) ∧ PS W' (.slice a dn c) (allL L') ∧ Below W.heap.size W W' by
          have h := rall8 w W M v' L' (HW.out.below hB).rq (by have := HL2.out; omega)
          rw [HDN.out] at h
          exact h)
        have HF5 := Lib.hid (fun (W : World) (hB : Below wc.heap.size wc W) => show Calls Try.prog 15 #[.pointer (some ⟨C, 0, none⟩)] W fun e W' => ∃ a c, e = .returned (.slice a dn c) ∧ PS W' (.slice a dn c) (allL L') ∧ Below W.heap.size W W' from
          (pall8 w W C (i + 1) mv' L' (HW.out.below hB).co (by have := HD2.out; omega)).mono fun e W' h => by
            obtain ⟨v0, rfl, hA, hb⟩ := h
            obtain ⟨a, c, rfl, hx⟩ := ps_own hA.1
            rw [← HDN.out]
            exact ⟨a, c, rfl, ⟨a, c, rfl, hx⟩, hb⟩)
        have HF6 := Lib.hid (fun (W : World) (x y : Value) (hx : PS W x (allL L')) (hy : PS W y (allL L')) => show Calls Try.prog 14 #[x, y] W fun e W' => e = .returned (.bool true) ∧ Below W.heap.size W W' by
          have h := psame_any W x y (allL L') (allL L') hx hy (by rw [HDN.out]; have := HD2.out; have := HDN.out; unfold distinct at *; omega) (by rw [HDN.out]; have := HD2.out; have := HDN.out; unfold distinct at *; omega)
          rw [decide_eq_true (rfl : allL L' = allL L')] at h
          exact h)
        rw [hcq, HQR.out] at HF1 HF2
        have HP := Lib.hid (range_below hP (Below.refl _ wc).drew)
        have HB0 := Lib.hid (show Below wc.heap.size wc wc.drew from (Below.refl _ wc).drew)
        have HSS := Lib.hid (show ∀ W : World, Below wc.heap.size wc W → W.rangeAt T 1 AL from fun W hB => range_below hP hB)
        clear hW hL hP hcq hdn HDN HL2 HD2
        go_upto_region 16 with fail
        try simp only [Act.put]
        refine wp_region_noPanic ?_
        refine wp_region_held_drew (S := fun W => W.rangeAt T 1 AL) (by kernel_rfl) (HP.out) (fun hHeld => ?_)
        refine wpAnyH_take (i := 0) (oi := ⟨some 58, _, _, _, _, _⟩) (v := ?_) rfl (by kernel_rfl) (by decide +kernel) (by decide +kernel) (fun _ _ _ h => h) (Or.inl ⟨by rfl, ?_⟩) (by assumption) ?_
        rotate_left 1
        · (intro w' hSw; go_simp; try with_reducible rfl)
        try simp only [Act.put, List.setIfInBounds_toArray, List.set_cons_zero, List.set_cons_succ]
        refine wpAnyH_take (i := 1) (oi := ⟨some 59, _, _, _, _, _⟩) (v := ?_) rfl (by kernel_rfl) (by decide +kernel) (by decide +kernel) (fun _ _ _ h => h) (Or.inl ⟨by rfl, ?_⟩) (by assumption) ?_
        rotate_left 1
        · (intro w' hSw; go_simp; try with_reducible rfl)
        try simp only [Act.put, List.setIfInBounds_toArray, List.set_cons_zero, List.set_cons_succ]
        refine wpAnyH_take (i := 2) (oi := ⟨some 60, _, _, _, _, _⟩) rfl (by kernel_rfl) (by decide +kernel) (by decide +kernel) (fun _ _ _ h => h) (yieldsIf_load_mid (by rfl) _ _ rfl T 1 rfl AL _ (fun w' h => h) Try.underlying35 rfl SZ.out) (by assumption) ?_
        try simp only [Act.put, List.setIfInBounds_toArray, List.set_cons_zero, List.set_cons_succ]
        rw [HAL.out]
        refine wpAnyH_take (i := 4) (oi := ⟨some 62, _, _, _, _, _⟩) (v := ?_) rfl (by kernel_rfl) (by decide +kernel) (by decide +kernel) (fun _ _ _ h => h) (Or.inl ⟨by rfl, ?_⟩) (by assumption) ?_
        rotate_left 1
        · (intro w' hSw; go_simp; try with_reducible rfl)
        try simp only [Act.put, List.setIfInBounds_toArray, List.set_cons_zero, List.set_cons_succ]
        refine wpAnyH_take (i := 5) (oi := ⟨some 63, _, _, _, _, _⟩) (v := ?_) rfl (by kernel_rfl) (by decide +kernel) (by decide +kernel) (fun _ _ _ h => h) (Or.inl ⟨by rfl, ?_⟩) (by assumption) ?_
        rotate_left 1
        · (intro w' hSw; go_simp; try with_reducible rfl)
        try simp only [Act.put, List.setIfInBounds_toArray, List.set_cons_zero, List.set_cons_succ]
        refine wpAnyH_take (i := 6) (oi := ⟨some 64, _, _, _, _, _⟩) rfl (by kernel_rfl) (by decide +kernel) (by decide +kernel) (fun _ _ _ h => h) (yieldsIf_load_mid (by rfl) _ _ rfl T 1 rfl AL _ (fun w' h => h) Try.underlying35 rfl SZ.out) (by assumption) ?_
        try simp only [Act.put, List.setIfInBounds_toArray, List.set_cons_zero, List.set_cons_succ]
        rw [HAL.out]
        refine wpAnyH_ready (rs := [3]) (by decide +kernel) (by simp) ?_
        refine AllReadyH.cons rfl (fun K hK => ?_) AllReadyH.nil
        go_simp
        go_at_call 10
        refine (HF1.out _ HB0.out).mono ?_
        rintro e wt1 ⟨rfl, hb⟩
        have HC1 := Lib.hid (HB0.out.trans (hb.mono HB0.out.size))
        clear hb
        go_wp2_with fail
        refine hK.out _ _ (HSS.out _ HC1.out) (fun hHeld => ?_)
        clear hK K
        try simp only [Act.put, List.setIfInBounds_toArray, List.set_cons_zero, List.set_cons_succ]
        refine wpAnyH_ready (rs := [7]) (by decide +kernel) (by simp) ?_
        refine AllReadyH.cons rfl (fun K hK => ?_) AllReadyH.nil
        go_simp
        go_at_call 11
        refine (HF2.out _ HC1.out).mono ?_
        rintro e wt2 ⟨rfl, hb⟩
        have HC2 := Lib.hid (HC1.out.trans (hb.mono HC1.out.size))
        clear hb
        go_wp2_with fail
        refine hK.out _ _ (HSS.out _ HC2.out) (fun hHeld => ?_)
        clear hK K
        try simp only [Act.put, List.setIfInBounds_toArray, List.set_cons_zero, List.set_cons_succ]
        refine wpAnyH_take (i := 8) (oi := ⟨some 66, _, _, _, _, _⟩) (v := ?_) rfl (by kernel_rfl) (by decide +kernel) (by decide +kernel) (fun _ _ _ h => h) (Or.inl ⟨by rfl, ?_⟩) (by assumption) ?_
        rotate_left 1
        · (intro w' hSw; go_simp; try with_reducible rfl)
        try simp only [Act.put, List.setIfInBounds_toArray, List.set_cons_zero, List.set_cons_succ]
        refine wpAnyH_take (i := 9) (oi := ⟨some 67, _, _, _, _, _⟩) (v := ?_) rfl (by kernel_rfl) (by decide +kernel) (by decide +kernel) (fun _ _ _ h => h) (Or.inl ⟨by rfl, ?_⟩) (by assumption) ?_
        rotate_left 1
        · (intro w' hSw; go_simp; try with_reducible rfl)
        try simp only [Act.put, List.setIfInBounds_toArray, List.set_cons_zero, List.set_cons_succ]
        refine wpAnyH_take (i := 10) (oi := ⟨some 68, _, _, _, _, _⟩) (v := ?_) rfl (by kernel_rfl) (by decide +kernel) (by decide +kernel) (fun _ _ _ h => h) (Or.inl ⟨by rfl, ?_⟩) (by assumption) ?_
        rotate_left 1
        · (intro w' hSw; go_simp; try with_reducible rfl)
        try simp only [Act.put, List.setIfInBounds_toArray, List.set_cons_zero, List.set_cons_succ]
        refine wpAnyH_take (i := 12) (oi := ⟨some 70, _, _, _, _, _⟩) (v := ?_) rfl (by kernel_rfl) (by decide +kernel) (by decide +kernel) (fun _ _ _ h => h) (Or.inl ⟨by rfl, ?_⟩) (by assumption) ?_
        rotate_left 1
        · (intro w' hSw; go_simp; try with_reducible rfl)
        try simp only [Act.put, List.setIfInBounds_toArray, List.set_cons_zero, List.set_cons_succ]
        refine wpAnyH_ready (rs := [11]) (by decide +kernel) (by simp) ?_
        refine AllReadyH.cons rfl (fun K hK => ?_) AllReadyH.nil
        rw [if_pos (by kernel_rfl)]
        go_simp
        go_at_call 12
        refine (HF3.out _ HC2.out).mono ?_
        rintro e wt3 ⟨rfl, hb⟩
        have HC3 := Lib.hid (HC2.out.trans (hb.mono HC2.out.size))
        clear hb
        go_wp2_with fail
        refine hK.out _ _ (HSS.out _ HC3.out) (fun hHeld => ?_)
        clear hK K
        try simp only [Act.put, List.setIfInBounds_toArray, List.set_cons_zero, List.set_cons_succ]
        refine wpAnyH_ready (rs := [13]) (by decide +kernel) (by simp) ?_
        refine AllReadyH.cons rfl (fun K hK => ?_) AllReadyH.nil
        rw [if_pos (by kernel_rfl)]
        go_simp
        go_at_call 13
        refine (HF4.out _ HC3.out).mono ?_
        rintro e wt4 ⟨aHZ, cHZ, rfl, hps, hb⟩
        have HC4 := Lib.hid (HC3.out.trans (hb.mono HC3.out.size))
        have HZ_4 := Lib.hid hps
        clear hps
        clear hb
        go_wp2_with fail
        refine hK.out _ _ (HSS.out _ HC4.out) (fun hHeld => ?_)
        clear hK K
        try simp only [Act.put, List.setIfInBounds_toArray, List.set_cons_zero, List.set_cons_succ]
        refine wpAnyH_take (i := 14) (oi := ⟨some 72, _, _, _, _, _⟩) (v := ?_) rfl (by kernel_rfl) (by decide +kernel) (by decide +kernel) (fun _ _ _ h => h) (Or.inl ⟨by rfl, ?_⟩) (by assumption) ?_
        rotate_left 1
        · (intro w' hSw; go_simp; try with_reducible rfl)
        try simp only [Act.put, List.setIfInBounds_toArray, List.set_cons_zero, List.set_cons_succ]
        refine wpAnyH_take (i := 15) (oi := ⟨some 73, _, _, _, _, _⟩) (v := ?_) rfl (by kernel_rfl) (by decide +kernel) (by decide +kernel) (fun _ _ _ h => h) (Or.inl ⟨by rfl, ?_⟩) (by assumption) ?_
        rotate_left 1
        · (intro w' hSw; go_simp; try with_reducible rfl)
        try simp only [Act.put, List.setIfInBounds_toArray, List.set_cons_zero, List.set_cons_succ]
        refine wpAnyH_take (i := 16) (oi := ⟨some 74, _, _, _, _, _⟩) (v := ?_) rfl (by kernel_rfl) (by decide +kernel) (by decide +kernel) (fun _ _ _ h => h) (Or.inl ⟨by rfl, ?_⟩) (by assumption) ?_
        rotate_left 1
        · (intro w' hSw; go_simp; try with_reducible rfl)
        try simp only [Act.put, List.setIfInBounds_toArray, List.set_cons_zero, List.set_cons_succ]
        refine wpAnyH_take (i := 17) (oi := ⟨some 75, _, _, _, _, _⟩) (v := ?_) rfl (by kernel_rfl) (by decide +kernel) (by decide +kernel) (fun _ _ _ h => h) (Or.inl ⟨by rfl, ?_⟩) (by assumption) ?_
        rotate_left 1
        · (intro w' hSw; go_simp; try with_reducible rfl)
        try simp only [Act.put, List.setIfInBounds_toArray, List.set_cons_zero, List.set_cons_succ]
        refine wpAnyH_take (i := 18) (oi := ⟨some 76, _, _, _, _, _⟩) (v := ?_) rfl (by kernel_rfl) (by decide +kernel) (by decide +kernel) (fun _ _ _ h => h) (Or.inl ⟨by rfl, ?_⟩) (by assumption) ?_
        rotate_left 1
        · (intro w' hSw; go_simp; try with_reducible rfl)
        try simp only [Act.put, List.setIfInBounds_toArray, List.set_cons_zero, List.set_cons_succ]
        refine wpAnyH_take (i := 20) (oi := ⟨some 78, _, _, _, _, _⟩) (v := ?_) rfl (by kernel_rfl) (by decide +kernel) (by decide +kernel) (fun _ _ _ h => h) (Or.inl ⟨by rfl, ?_⟩) (by assumption) ?_
        rotate_left 1
        · (intro w' hSw; go_simp; try with_reducible rfl)
        try simp only [Act.put, List.setIfInBounds_toArray, List.set_cons_zero, List.set_cons_succ]
        refine wpAnyH_ready (rs := [19]) (by decide +kernel) (by simp) ?_
        refine AllReadyH.cons rfl (fun K hK => ?_) AllReadyH.nil
        rw [if_pos (by kernel_rfl)]
        go_simp
        go_at_call 15
        refine (HF5.out _ HC4.out).mono ?_
        rintro e wt5 ⟨aHX, cHX, rfl, hps, hb⟩
        have HC5 := Lib.hid (HC4.out.trans (hb.mono HC4.out.size))
        have HX_5 := Lib.hid hps
        clear hps
        clear hb
        go_wp2_with fail
        refine hK.out _ _ (HSS.out _ HC5.out) (fun hHeld => ?_)
        clear hK K
        try simp only [Act.put, List.setIfInBounds_toArray, List.set_cons_zero, List.set_cons_succ]
        refine wpAnyH_ready (rs := [21]) (by decide +kernel) (by simp) ?_
        refine AllReadyH.cons rfl (fun K hK => ?_) AllReadyH.nil
        rw [if_pos (by kernel_rfl)]
        go_simp
        go_at_call 13
        refine (HF4.out _ HC5.out).mono ?_
        rintro e wt6 ⟨aHY, cHY, rfl, hps, hb⟩
        have HC6 := Lib.hid (HC5.out.trans (hb.mono HC5.out.size))
        have HX_6 := Lib.hid (HX_5.out.below hb)
        have HY_6 := Lib.hid hps
        clear hps
        clear hb
        go_wp2_with fail
        refine hK.out _ _ (HSS.out _ HC6.out) (fun hHeld => ?_)
        clear hK K
        try simp only [Act.put, List.setIfInBounds_toArray, List.set_cons_zero, List.set_cons_succ]
        refine wpAnyH_ready (rs := [22]) (by decide +kernel) (by simp) ?_
        refine AllReadyH.cons rfl (fun K hK => ?_) AllReadyH.nil
        rw [if_pos (by kernel_rfl)]
        go_simp
        go_at_call 14
        refine (HF6.out _ _ _ HX_6.out HY_6.out).mono ?_
        rintro e wt7 ⟨rfl, hb⟩
        have HC7 := Lib.hid (HC6.out.trans (hb.mono HC6.out.size))
        have HX_7 := Lib.hid (HX_6.out.below hb)
        have HY_7 := Lib.hid (HY_6.out.below hb)
        clear hb
        go_wp2_with fail
        refine hK.out _ _ (HSS.out _ HC7.out) (fun hHeld => ?_)
        clear hK K
        try simp only [Act.put, List.setIfInBounds_toArray, List.set_cons_zero, List.set_cons_succ]
        refine wpAnyH_take (i := 23) (oi := ⟨some 81, _, _, _, _, _⟩) (v := ?_) rfl (by kernel_rfl) (by decide +kernel) (by decide +kernel) (fun _ _ _ h => h) (Or.inl ⟨by rfl, ?_⟩) (by assumption) ?_
        rotate_left 1
        · (intro w' hSw; go_simp; try with_reducible rfl)
        try simp only [Act.put, List.setIfInBounds_toArray, List.set_cons_zero, List.set_cons_succ]
        refine wpAnyH_take (i := 24) (oi := ⟨some 82, _, _, _, _, _⟩) (v := ?_) rfl (by kernel_rfl) (by decide +kernel) (by decide +kernel) (fun _ _ _ h => h) (Or.inl ⟨by rfl, ?_⟩) (by assumption) ?_
        rotate_left 1
        · (intro w' hSw; go_simp; try with_reducible rfl)
        try simp only [Act.put, List.setIfInBounds_toArray, List.set_cons_zero, List.set_cons_succ]
        clear hHeld
        refine wpAnyH_done (by decide +kernel) ?_ _
        refine NoPanic.normal ?_
        go_wp2_with fail
        go_roundw
        case rel => exact ⟨i + 1, mv', v', L', by have := HLT.out; omega, by go_num, HW.out.below HC7.out, HLL.out⟩
        case measure => simp [intOf]; have := HLT.out; omega
    · obtain rfl : i = len0 := by omega
      have HB := Lib.hid hW.co.bel
      clear hi hlt hW
      go_wp2_with fail
      go_ret
      exact ⟨rfl, HB.out⟩
set_option maxRecDepth 100000 in
theorem lifted (os : Os) (started : os.Started) (H : Type) (enc : TypeId × Value → H) :
    ReturnsInHanded {} Try.checked os 3 .any (Rows.ptrCountsSpec.pre6 enc Try.prog Try.f3 Rows.ptrCountsRow.domain false) (Rows.ptrCountsSpec.post enc Try.prog Try.f3 false true false false) := by
  refine returnsInHanded_of_change_sized (C := Try.checked) own started (by kernel_rfl) Try.func3
    (ChangeSpec.witness6 (enc := enc) (C := Try.checked) false ⟨#[], #[.slice none 0 0], []⟩ 8 (by kernel_rfl) (by kernel_rfl) (by kernel_rfl) (by kernel_rfl)) ?_
  intro W base args ds gs before hval0 hW hcnd hsz0 _
  have hsz : (DataW.weightsEach Try.prog (Try.f3.params.toList ++ Rows.ptrCountsSpec.plain.varTypes Try.prog) (ds ++ gs)).all (· ≤ reachBytes) = true := hsz0
  clear hsz0
  have hval : ∀ (j : Nat) t v, Try.f3.params[j]? = some t → args[j]? = some v → Value.okWide Try.prog W .any base t v := hval0
  have hW' := hW
  obtain ⟨p, q, hA0, hV, rfl, hfz, hnd⟩ := hW
  have hA : DataW.TrodAll enc Try.prog W 0 (fun _ => true) true Try.f3.params.toList args.toList ds p := hA0
  rw [Try.params3] at hA hval hsz
  obtain ⟨v0, vs0, d0, ds0, p0, q0, hargs, rfl, rfl, h0, r0⟩ := trodAll_cons hA
  obtain ⟨rfl, rfl, rfl⟩ := trodAll_nil r0
  obtain rfl : args = #[v0] := by cases args; simp_all
  obtain ⟨rfl, rfl⟩ := trodVars_none hV
  have k0 := h0
  have lt0 : ∀ x ∈ p0, x.block < W.heap.size := by obtain ⟨m, hm⟩ := k0; exact DataW.trod_lt m _ _ _ hm
  obtain ⟨x0, a0, len0, cap0, rfl, sl0⟩ := par_slice (j := 0) Try.underlying22 opn_acts (hval 0 22 v0 rfl rfl) h0 hsz rfl rfl
  clear hA0 hval0
  simp only [List.append_nil] at hW'
  refine (walk W a0 len0 cap0 x0 sl0).mono fun e W' ⟨he, bel⟩ => ?_
  subst he
  exact ⟨_, rfl, _, _, _, [], _, [], hW', trodAll_mk1 (shut_bool Try.underlying4 _), (trodAll_cons_mk (Below.trod laidOut (by kernel_rfl) (of_decide_eq_true (by kernel_rfl)) k0 bel lt0) trodAll_mk0), rfl, bel.frame _, fun h => by cases h⟩

theorem over : Rows.ptrCountsRow.holds Try.pinned (OpenSpec.ofChange Rows.ptrCountsSpec) :=
  OpenClaim.holds_of_wide 3 Try.f3 rfl rfl rfl rfl rfl rfl rfl ⟨rfl, rfl, rfl, rfl, rfl⟩ rfl rfl rfl rfl rfl (by kernel_rfl) Try.func3 (by kernel_rfl)
    (of_decide_eq_true (by kernel_rfl)) (by unfold Func.isWrapper; first | (rw [if_pos (by decide +kernel)]; kernel_rfl) | (rw [if_neg (by decide +kernel)]; exact ⟨rfl, rfl⟩))
    (fun os started H enc _ => lifted os started H enc)

/-- The statement. -/
theorem proved : Rows.PtrCountsSaid := over
#print axioms proved
end Go.Proofs.Ytocdjaenhllemaa.ptrCounts
