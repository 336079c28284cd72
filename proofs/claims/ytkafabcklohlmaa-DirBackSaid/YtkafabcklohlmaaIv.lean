/-
  Datasets out of keys and values: the document's Get. (Written by tools/XIv.make.py.)
-/
import Derived.Test.YtkafabcklohlmaaIu
import Derived.Test.YtkafabcklohlmaaIq
namespace Go.Proofs.Ytkafabcklohlmaa
set_option maxRecDepth 4000
set_option linter.unusedVariables false
open Go.ChangeShapes Go.WideShapes Go.ChangeAt Go.RowKit

/-- A reader of the document's, on a text's bytes, in a block of its own. -/
theorem rr_made (w : World) (V : ByteArray) (hV : V.size ≤ 140737488351232) :
    RT ((Lib.bytesWorld w 5 V).alloc (.cells #[.slice (some ⟨w.heap.size, 0, none⟩) V.size (grownCap w V.size 0 5)] 79)).heap.size ((Lib.bytesWorld w 5 V).alloc (.cells #[.slice (some ⟨w.heap.size, 0, none⟩) V.size (grownCap w V.size 0 5)] 79)) 79 (Lib.bytesWorld w 5 V).heap.size (btxt V) :=
  RT.now ⟨new15 _ _, (bbytes_bs w V).kept (ba15 _ _), btxt_length V, grownCap_ge w V.size 0 5, hV⟩
theorem setCell_size15 (w : World) (a : Addr) (v : Value) : (w.setCell a v).heap.size = w.heap.size := by simp [World.setCell]
set_option maxRecDepth 100000 in
set_option maxHeartbeats 3200000 in
theorem rget15 (K V : ByteArray) (hK : K.size ≤ 140737488351232) (hV : V.size ≤ 140737488351232) (w : World) : Calls Try.prog 22 #[.agg #[.string K, .string V]] w fun e w' => SetPost w (getK K V) e w' := by
  obtain ⟨hx, hr, hb⟩ := two_rows w (.cells #[.string K, .string V] 45) (.cells (setRow zeroSet).toArray 38)
  obtain ⟨ZS, hzs⟩ := setR zeroSet
  have hz := zero_set
  rw [hzs.eq] at hz
  have HZ := Lib.hid hzs
  clear hzs
  rw [HZ.out.eq] at hx hr hb
  have HX := Lib.hid hx
  have HR := Lib.hid hr
  have HB := Lib.hid hb
  clear hx hr hb
  have HPU := Lib.hid (fun W => rput15 (readD K V) (readD_ok hK) W)
  obtain ⟨AR, har⟩ := setR (readD K V)
  rw [har.eq] at HPU
  have HAR := Lib.hid har
  unfold KvPost at HPU
  clear har
  go_enter Try.func22, Try.ntmps22
  go_upto_region 1 with fail
  generalize World.alloc (World.alloc w (.cells #[.string K, .string V] 45)) (.cells ZS 38) = w1 at *
  have HRW := Lib.hid (show w.heap.size ≤ w.heap.size + 1 by omega)
  generalize hRR : w.heap.size + 1 = R at *
  generalize hXX : w.heap.size = X at *
  have HXS := Lib.hid (show X ≤ w1.heap.size from hXX ▸ HB.out.size)
  clear hRR
  have c1 := cell_of_row w1 X 1 _ _ _ HX.out
  have hcv := bconv_txt V w1
  have HBW := Lib.hid (bt15 (bbytes_below w1 V) (ba15 _ (.cells #[.slice (some ⟨w1.heap.size, 0, none⟩) V.size (grownCap w1 V.size 0 5)] 79)))
  have HT3 := Lib.hid (rr_made w1 V hV)
  have hqx : w1.heap.size ≤ (Lib.bytesWorld w1 5 V).heap.size := (bbytes_below w1 V).size
  go_upto_region 2 with fail
  generalize World.alloc (Lib.bytesWorld w1 5 V) (.cells #[.slice (some ⟨w1.heap.size, 0, none⟩) V.size (grownCap w1 V.size 0 5)] 79) = w3 at *
  generalize (Lib.bytesWorld w1 5 V).heap.size = Q at *
  have HXl := Lib.hid (lt_of_block HX.out)
  have HRl := Lib.hid (lt_of_block HR.out)
  have HNE := Lib.hid (show X ≠ Q ∧ R ≠ Q ∧ X ≤ Q from ⟨by have := HXl.out; omega, by have := HRl.out; omega, by have := HXl.out; omega⟩)
  have HX3 := Lib.hid ((HBW.out.block _ HXl.out).trans HX.out)
  have HR3 := Lib.hid ((HBW.out.block _ HRl.out).trans HR.out)
  have HB3 := Lib.hid (HB.out.trans (HBW.out.mono HXS.out))
  have HXS3 := Lib.hid (Nat.le_trans HXS.out HBW.out.size)
  obtain ⟨bv, hbv⟩ : ∃ z, btxt V = z := ⟨_, rfl⟩
  have hby : Byt bv := hbv ▸ btxt_byt V
  have HBY := Lib.hid hby
  have HRE := Lib.hid (show readD K V = ⟨K, (strA (numA 1 bv).2.2).1, (numA 1 bv).1 == 2, (getA (strA (numA 1 bv).2.2).2.2).1⟩ by unfold readD; rw [hbv])
  rw [hbv] at HT3
  obtain ⟨N, hN⟩ : ∃ z, w3.heap.size = z := ⟨_, rfl⟩
  have HNS := Lib.hid hN
  rw [hN] at HT3
  have HNU := Lib.hid (rnum_t N Q bv 1 w3 HT3.out (by decide))
  clear hby hbv HT3 c1 hcv HBW HB HX HR hV hqx hN
  go_wp2_with fail
  refine HNU.out.mono ?_
  rintro e w4 ⟨rfl, ht4, o4⟩
  have hnb := num1_15 bv HBY.out
  have HB4 := Lib.hid (HB3.out.trans (o4.bel X HNE.out.2.2))
  have HXS4 := Lib.hid (Nat.le_trans HXS3.out (Nat.le_of_eq o4.size.symm))
  have HX4 := Lib.hid ((o4.rest X HNE.out.1).trans HX3.out)
  have HR4 := Lib.hid ((o4.rest R HNE.out.2.1).trans HR3.out)
  have HN4 := Lib.hid (show N ≤ w4.heap.size by rw [o4.size, HNS.out]; exact Nat.le_refl _)
  have HT4 := Lib.hid ht4
  have c0 := cell_of_row w4 X 0 _ _ _ HX4.out
  generalize numA 1 bv = NA at *
  obtain ⟨n1, hn1⟩ : ∃ z, NA.1 = z := ⟨_, rfl⟩
  rw [hn1] at hnb HRE ⊢
  have hbd := build_set2 K (n1 == 2)
  obtain ⟨BR, hB⟩ := setR ⟨K, noS, n1 == 2, zeroPtr⟩
  rw [hB.eq] at hbd
  have HBR := Lib.hid hB
  have HBD := Lib.hid hbd
  clear ht4 o4 HNU hn1 hbd hB HB3 HX3 HR3 HXS3
  go_upto_region 4 with (first
    | (with_reducible refine wpList_build_run (o := ⟨some 24, _, _, _, _, _⟩) rfl 38 _ rfl #[(0, .string K), (2, .bool (n1 == 2))] (by simp [Act.eval]) (.agg BR) (HBD.out _) ?_)
    | (with_reducible refine wpList_store_row (o := ⟨none, .store _ (.tmp 7) _, _, _, _, _⟩) rfl 38 _ _ rfl w4.heap.size BR rfl rfl 38 ZS (heap_alloc_new w4 _) HBR.out.sz (HZ.out.same HBR.out) HBR.out.one ?_))
  generalize hWs : World.setRow _ w4.heap.size _ = w5
  have hst := fresh15 w4 ZS BR 38 w5 hWs.symm
  have HY5 := Lib.hid hst.1
  have HB5 := Lib.hid (HB4.out.trans (hst.2.mono HXS4.out))
  have HXS5 := Lib.hid (Nat.le_trans HXS4.out hst.2.size)
  have HX5 := Lib.hid ((hst.2.block _ (lt_of_block HX4.out)).trans HX4.out)
  have HR5 := Lib.hid ((hst.2.block _ (lt_of_block HR4.out)).trans HR4.out)
  have HT5 := Lib.hid (HT4.out.keep (Nat.le_trans HN4.out hst.2.size) (fun k hk => hst.2.block k (Nat.lt_of_lt_of_le hk HN4.out)))
  have HYN := Lib.hid HN4.out
  have HYQ := Lib.hid (show w4.heap.size ≠ Q by have := HT4.out.lt; have := HN4.out; omega)
  have HXY := Lib.hid (show X ≤ w4.heap.size from HXS4.out)
  have HYR := Lib.hid (show R ≠ w4.heap.size ∧ X ≠ w4.heap.size from ⟨Nat.ne_of_lt (lt_of_block HR4.out), Nat.ne_of_lt (lt_of_block HX4.out)⟩)
  clear hWs hst c0 HB4 HX4 HR4 HT4 HXS4 HN4
  generalize w4.heap.size = Y at *
  have HS := Lib.hid (rstr_t N Q _ w5 HT5.out)
  go_wp2_with fail
  refine HS.out.mono ?_
  rintro e w6 ⟨rfl, ht6, o6⟩
  generalize strA NA.2.2 = SA at *
  have HB6 := Lib.hid (HB5.out.trans (o6.below HNE.out.2.2 HXS5.out))
  have HXS6 := Lib.hid (Nat.le_trans HXS5.out o6.size)
  have HX6 := Lib.hid ((o6.block X (lt_of_block HX5.out) HNE.out.1).trans HX5.out)
  have HR6 := Lib.hid ((o6.block R (lt_of_block HR5.out) HNE.out.2.1).trans HR5.out)
  have HY6 := Lib.hid ((o6.block Y (lt_of_block HY5.out) HYQ.out).trans HY5.out)
  have HT6 := Lib.hid ht6
  have hfz := frozen_of_row w6 Y 1 _ _ HY6.out
  obtain ⟨_, d1, _, _⟩ := set_atR HY6.out HBR.out
  have hC := setR_fr HBR.out SA.1
  have HCR := Lib.hid hC
  have HY7 := Lib.hid (heap_setCell_same w6 Y 1 BR _ (.string SA.1) HY6.out)
  have HB7 := Lib.hid (HB6.out.setCell (p := ⟨Y, 1, none⟩) HXY.out (.string SA.1))
  have HX7 := Lib.hid ((heap_setCell_other w6 ⟨Y, 1, none⟩ X (.string SA.1) HYR.out.2).trans HX6.out)
  have HR7 := Lib.hid ((heap_setCell_other w6 ⟨Y, 1, none⟩ R (.string SA.1) HYR.out.1).trans HR6.out)
  have HT7 := Lib.hid (HT6.out.keep (w' := w6.setCell ⟨Y, 1, none⟩ (.string SA.1)) (by rw [setCell_size15]; exact HT6.out.1) (fun k hk => heap_setCell_other w6 ⟨Y, 1, none⟩ k (.string SA.1) (by have := HYN.out; show k ≠ Y; omega)))
  have HXS7 := Lib.hid (show X ≤ (w6.setCell ⟨Y, 1, none⟩ (.string SA.1)).heap.size by rw [setCell_size15]; exact HXS6.out)
  obtain ⟨CR, hCR⟩ : ∃ z, BR.setIfInBounds 1 (.string SA.1) = z := ⟨_, rfl⟩
  rw [hCR] at HY7 HCR
  clear ht6 o6 HS hC hCR HB5 HX5 HR5 HY5 HT5 HXS5
  go_upto_region 5 with fail
  generalize w6.setCell ⟨Y, 1, none⟩ (.string SA.1) = w7 at *
  clear hfz d1 HB6 HX6 HR6 HY6 HT6 HXS6
  have HG := Lib.hid (rgetp_t N Q _ w7 HT7.out)
  obtain ⟨PR, hPR⟩ : ∃ z, (ptrRow (getA SA.2.2).1).toArray = z := ⟨_, rfl⟩
  rw [hPR] at HG
  have HPR := Lib.hid hPR
  clear hPR
  go_wp2_with fail
  refine HG.out.mono ?_
  rintro e w8 ⟨rfl, _, o8⟩
  have HB8 := Lib.hid (HB7.out.trans (o8.below HNE.out.2.2 HXS7.out))
  have HXS8 := Lib.hid (Nat.le_trans HXS7.out o8.size)
  have HX8 := Lib.hid ((o8.block X (lt_of_block HX7.out) HNE.out.1).trans HX7.out)
  have HR8 := Lib.hid ((o8.block R (lt_of_block HR7.out) HNE.out.2.1).trans HR7.out)
  have HY8 := Lib.hid ((o8.block Y (lt_of_block HY7.out) HYQ.out).trans HY7.out)
  have HTH := Lib.hid (show w8.there Y 3 PR.size from there_row HY8.out (by rw [← HPR.out, HCR.out.n]; simp [ptrRow_length]))
  have HP1 := Lib.hid (show (Try.prog.info? 36).map (·.size) = some PR.size from HPR.out ▸ size_ptrA _)
  have HP2 := Lib.hid (show PR.all (·.oneCell') = true from HPR.out ▸ ptrRow_one _)
  have HY9 := Lib.hid (rt_put HY8.out HCR.out (getA SA.2.2).1)
  rw [show (setRow (⟨K, SA.1, n1 == 2, (getA SA.2.2).1⟩ : SetV)).toArray = AR by rw [← HRE.out]; exact HAR.out.eq] at HY9
  have hpl : PR.toList = ptrRow (getA SA.2.2).1 := by rw [← HPR.out]
  have HB9 := Lib.hid (below_sets Y (ptrRow (getA SA.2.2).1) 3 _ _ _ HB8.out HXY.out)
  have HX9 := Lib.hid ((heap_sets_other Y (ptrRow (getA SA.2.2).1) 3 w8 X HYR.out.2).trans HX8.out)
  have HR9 := Lib.hid ((heap_sets_other Y (ptrRow (getA SA.2.2).1) 3 w8 R HYR.out.1).trans HR8.out)
  clear o8 HG HB7 HX7 HR7 HY7 HT7 HXS7
  go_upto_region 6 with (first
    | (with_reducible refine wpList_store_mid (op := ⟨none, .store _ (.tmp 36) _, _, _, _, _⟩) rfl 36 _ _ rfl Y 3 PR rfl rfl HTH.out HP1.out HP2.out ?_))
  rw [hpl]
  have HXS9 := Lib.hid (Nat.le_of_lt (lt_of_block HX9.out))
  generalize w8.setCells Y 3 (ptrRow (getA SA.2.2).1) = w9 at *
  clear hpl HTH HP1 HP2 HB8 HX8 HR8 HY8 HXS8
  go_wp2_with (first
    | (with_reducible refine wpList_load_row (o := ⟨some 38, _, _, _, _, _⟩) rfl 38 _ rfl Y rfl 38 AR (0, 0) _ HY9.out Try.underlying38 rfl HAR.out.sz ?_))
  refine (HPU.out _).mono ?_
  rintro e wa ⟨rfl, hba⟩
  have HBa := Lib.hid (HB9.out.trans (hba.mono HXS9.out))
  have HXSa := Lib.hid (Nat.le_trans HXS9.out hba.size)
  have HYa := Lib.hid ((hba.block _ (lt_of_block HY9.out)).trans HY9.out)
  have HXa := Lib.hid ((hba.block _ (lt_of_block HX9.out)).trans HX9.out)
  have HRa := Lib.hid ((hba.block _ (lt_of_block HR9.out)).trans HR9.out)
  have hbn := build_set0
  rw [HZ.out.eq] at hbn
  clear hba HPU HB9 HX9 HR9 HY9
  by_cases hok : okS (readD K V) = true
  · have hpd : putD (readD K V) = ((K, putV (readD K V)), 0) := by unfold putD; rw [if_pos hok]; rfl
    rw [hpd]
    have HPD := Lib.hid hpd
    clear hok hpd
    go_upto_region 7 with fail
    generalize hWs : World.alloc wa (.cells #[.string K, .string (putV (readD K V))] 45) = w5
    have hb5 := ba15 wa (.cells #[.string K, .string (putV (readD K V))] 45)
    have hn5 := new15 wa (.cells #[.string K, .string (putV (readD K V))] 45)
    rw [hWs] at hb5 hn5
    have HN5 := Lib.hid hn5
    have HB5 := Lib.hid (HBa.out.trans (hb5.mono HXSa.out))
    have HQ5 := Lib.hid ((hb5.block _ (lt_of_block HYa.out)).trans HYa.out)
    have HX5 := Lib.hid ((hb5.block _ (lt_of_block HXa.out)).trans HXa.out)
    have HR5 := Lib.hid ((hb5.block _ (lt_of_block HRa.out)).trans HRa.out)
    clear hWs hb5 hn5 HBa HYa HXa HRa
    generalize wa.heap.size = Z at *
    generalize putV (readD K V) = PV at *
    have hkk : (K.toList == K.toList) = true := by simp
    have hvv := str_beq PV V
    by_cases hv : PV = V
    · have HE := Lib.hid (show getK K V = (readD K V, 0) by unfold getK; rw [if_pos (by rw [HPD.out, hv])])
      rw [decide_eq_true hv] at hvv
      clear hv
      go_wp2_with (first
        | (with_reducible refine wpList_load_guarded (o := ⟨some 45, _, _, _, _, _⟩) (by kernel_rfl) 45 _ rfl Z rfl 45 #[.string K, .string PV] (0, 0) _ HN5.out Try.underlying45 rfl (size_kv _ _) ?_)
        | (with_reducible refine wpList_load_guarded (o := ⟨some 46, _, _, _, _, _⟩) (by kernel_rfl) 45 _ rfl X rfl 45 #[.string K, .string V] (0, 0) _ HX5.out Try.underlying45 rfl (size_kv _ _) ?_)
        | (with_reducible refine wpList_load_row (o := ⟨some 50, _, _, _, _, _⟩) rfl 38 _ rfl Y rfl 38 AR (0, 0) _ HQ5.out Try.underlying38 rfl HAR.out.sz ?_)
        | (with_reducible refine wpList_store_row (o := ⟨none, .store _ (.tmp 2) _, _, _, _, _⟩) rfl 38 _ _ rfl R AR rfl rfl 38 ZS HR5.out HAR.out.sz (HZ.out.same HAR.out) HAR.out.one ?_))
      refine bodyPost_ret (v := .tuple #[.agg AR, .int .i64 0]) (results_cell_two Try.results22 _ _ R 38 AR (0, 0) _ rfl (setRow_heap _ R _ AR _ _ HR5.out) Try.underlying38 rfl HAR.out.sz _ (by simp)) rfl ?_
      exact ⟨by rw [HE.out, HAR.out.eq], by rw [hXX]; exact ybelow_row HB5.out HRW.out _⟩
    · have HE := Lib.hid (show getK K V = (zeroSet, 4) by unfold getK; rw [if_neg (by rw [HPD.out]; simp [hv])])
      rw [decide_eq_false hv] at hvv
      clear hv
      go_wp2_with (first
        | (with_reducible refine wpList_load_guarded (o := ⟨some 45, _, _, _, _, _⟩) (by kernel_rfl) 45 _ rfl Z rfl 45 #[.string K, .string PV] (0, 0) _ HN5.out Try.underlying45 rfl (size_kv _ _) ?_)
        | (with_reducible refine wpList_load_guarded (o := ⟨some 46, _, _, _, _, _⟩) (by kernel_rfl) 45 _ rfl X rfl 45 #[.string K, .string V] (0, 0) _ HX5.out Try.underlying45 rfl (size_kv _ _) ?_)
        | (with_reducible refine wpList_store_row (o := ⟨none, .store _ (.tmp 2) _, _, _, _, _⟩) rfl 38 _ _ rfl R ZS rfl rfl 38 ZS HR5.out HZ.out.sz (HZ.out.same HZ.out) HZ.out.one ?_))
      refine bodyPost_ret (v := .tuple #[.agg ZS, .int .i64 4]) (results_cell_two Try.results22 _ _ R 38 ZS (0, 0) _ rfl (setRow_heap _ R _ ZS _ _ HR5.out) Try.underlying38 rfl HZ.out.sz _ (by simp)) rfl ?_
      exact ⟨by rw [HE.out, HZ.out.eq], by rw [hXX]; exact ybelow_row HB5.out HRW.out _⟩
  · have hpd : putD (readD K V) = ((noS, noS), 4) := by unfold putD; rw [if_neg hok]
    have HE := Lib.hid (show getK K V = (zeroSet, 4) by unfold getK; rw [if_neg (by rw [hpd]; simp)])
    rw [hpd]
    clear hok hpd
    have hb5 := ba15 wa (.cells #[.string noS, .string noS] 45)
    have HB5 := Lib.hid (HBa.out.trans (hb5.mono HXSa.out))
    have HR5 := Lib.hid ((hb5.block _ (lt_of_block HRa.out)).trans HRa.out)
    clear hb5
    go_upto_region 7 with fail
    generalize World.alloc wa (.cells #[.string noS, .string noS] 45) = w5 at *
    go_wp2_with (first
      | (with_reducible refine wpList_store_row (o := ⟨none, .store _ (.tmp 2) _, _, _, _, _⟩) rfl 38 _ _ rfl R ZS rfl rfl 38 ZS HR5.out HZ.out.sz (HZ.out.same HZ.out) HZ.out.one ?_))
    refine bodyPost_ret (v := .tuple #[.agg ZS, .int .i64 4]) (results_cell_two Try.results22 _ _ R 38 ZS (0, 0) _ rfl (setRow_heap _ R _ ZS _ _ HR5.out) Try.underlying38 rfl HZ.out.sz _ (by simp)) rfl ?_
    exact ⟨by rw [HE.out, HZ.out.eq], by rw [hXX]; exact ybelow_row HB5.out HRW.out _⟩
end Go.Proofs.Ytkafabcklohlmaa
