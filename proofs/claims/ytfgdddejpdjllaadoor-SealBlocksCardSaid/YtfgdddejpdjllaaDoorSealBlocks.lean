/-
  'SealBlocks' returns true at every input, and each argument reads behind the call as it read before. Conditions: the package-level variable that the row lists starts as the program's text lays it (the card ties that).
-/
import Derived.Test.YtfgdddejpdjllaaDoorLaid
import Derived.Test.YtfgdddejpdjllaaDoorCards
import Derived.Test.YtfgdddejpdjllaaDoorTie
import Derived.Test.YtfgdddejpdjllaaDoorEj
import Derived.Deep.CutRange
import Derived.Deep.DeepCutAuto
namespace Go.Proofs.YtfgdddejpdjllaaDoor.sealBlocks
open Go.ChangeShapes Go.WideShapes Go.ChangeAt Go.RowKit
set_option linter.unusedVariables false


set_option maxRecDepth 100000 in
set_option maxHeartbeats 1600000 in
theorem walk (w : World) (k : List (BitVec 8)) (bi : Int) (ad : Int) (ba : Option Addr) (bc : Nat) (b : List Int) (qf : k.length = 32 ∧ (0 ≤ bi ∧ bi ≤ 18446744073709551615) ∧ (0 ≤ ad ∧ ad ≤ 4294967295) ∧ (b.length ≤ bc ∧ bc ≤ 140737488351232 ∧ BS w (.slice ba b.length bc) b)) (hK : KT w) :
    Calls Tryd.prog 4 #[.agg (born12Cells k bi ad ba bc b).toArray] w fun e w' => e = .returned (.bool true) ∧ Below w.heap.size w w' := by
  obtain ⟨hk, ⟨bi0, bi1⟩, ⟨ad0, ad1⟩, hb1, hb2, hb3⟩ := qf
  have HLk := Lib.hid hk
  have HAL := Lib.hid (fun (W : World) (hb : Below w.heap.size w W) => alive12_any W (hK.below hb hK.pos))
  have HK := Lib.hid hK
  have hA0 := heap_alloc_new w (.cells (born12Cells k bi ad ba bc b).toArray 37)
  have hB0 := (Below.refl w.heap.size w).alloc (Nat.le_refl _) (.cells (born12Cells k bi ad ba bc b).toArray 37)
  have Ik := Lib.hid (info_rkeyL k hk)
  have Sk := Lib.hid (size_arr32 k hk)
  have Ek := Lib.hid (show (yvs (zeroY 32)).size = (yvs k).size by rw [yvs_size, yvs_size, hk]; rfl)
  have HCL := Lib.hid (fun (W : World) (h : W.heap[w.heap.size]? = some (.cells (born12Cells k bi ad ba bc b).toArray 37 (0, 0))) => show W.rangeAt w.heap.size 0 (yvs k).toList ∧ W.cell? ⟨w.heap.size, 32, none⟩ = some (.int .u64 bi) ∧ W.cell? ⟨w.heap.size, 33, none⟩ = some (.int .u32 ad) ∧ W.cell? ⟨w.heap.size, 34, none⟩ = some (.slice ba b.length bc) from born12_at k bi ad ba bc b h hk)
  clear hK hk
  generalize hcl : (born12Cells k bi ad ba bc b).toArray = CL at *
  clear hcl
  have hz32 := zero_arr32
  go_enter Tryd.func4, Tryd.ntmps4
  go_wp2_with fail
  refine (HAL.out _ hB0).mono ?_
  rintro e w1 ⟨rfl, hb1⟩
  have hA1 := (hb1.block w.heap.size (lt_of_block hA0)).trans hA0
  have HBW1 := Lib.hid (hB0.trans (hb1.mono hB0.size))
  have HS := Lib.hid (show ∀ W, Below w1.heap.size w1 W → W.rangeAt w.heap.size 0 (yvs k).toList ∧ W.cell? ⟨w.heap.size, 32, none⟩ = some (.int .u64 bi) ∧ W.cell? ⟨w.heap.size, 33, none⟩ = some (.int .u32 ad) ∧ W.cell? ⟨w.heap.size, 34, none⟩ = some (.slice ba b.length bc) from fun W hW => HCL.out W ((hW.block _ (lt_of_block hA1)).trans hA1))
  clear hA0 hB0 hb1 hA1 HAL HCL
  go_upto_region 3 with (fail)
  go_cut [3, 4, 5, 6] from 7 (fun v3 v4 v5 v6 wc => ∃ X, v3 = .pointer (some ⟨X, 0, none⟩) ∧ v4 = .int .u64 bi ∧ v5 = .int .u32 ad ∧ v6 = .slice ba b.length bc ∧ Below w1.heap.size w1 wc ∧ wc.heap[X]? = some (.cells (yvs k) 24 (0, 0)) ∧ w1.heap.size ≤ X)
  case first =>
    try simp only [Act.put]
    refine wp_region_noPanic ?_
    refine wp_region_held_drew (S := fun W => W.rangeAt w.heap.size 0 (yvs k).toList ∧ W.cell? ⟨w.heap.size, 32, none⟩ = some (.int .u64 bi) ∧ W.cell? ⟨w.heap.size, 33, none⟩ = some (.int .u32 ad) ∧ W.cell? ⟨w.heap.size, 34, none⟩ = some (.slice ba b.length bc)) (by kernel_rfl) (HS.out _ (Below.refl _ w1).drew) (fun hHeld => ?_)
    refine wpAnyH_take (i := 0) (oi := ⟨some 21, _, _, _, _, _⟩) (v := ?_) rfl (by kernel_rfl) (by decide +kernel) (by decide +kernel) (fun _ _ _ h => h) (Or.inl ⟨by rfl, ?_⟩) (by assumption) ?_
    rotate_left 1
    · (intro w' hSw; go_simp; try with_reducible rfl)
    try simp only [Act.put, List.setIfInBounds_toArray, List.set_cons_zero, List.set_cons_succ]
    refine wpAnyH_take (i := 1) (oi := ⟨some 22, _, _, _, _, _⟩) rfl (by kernel_rfl) (by decide +kernel) (by decide +kernel) (fun _ _ _ h => h) (yieldsIf_load_mid (by rfl) _ _ rfl (w.heap.size) (0) rfl (yvs k).toList _ (fun w' h => h.1) Tryd.underlying24 rfl Ik.out) (by assumption) ?_
    try simp only [Act.put, List.setIfInBounds_toArray, List.set_cons_zero, List.set_cons_succ, Array.toArray_toList]
    refine wpAnyH_take (i := 2) (oi := ⟨some 23, _, _, _, _, _⟩) (v := ?_) rfl (by kernel_rfl) (by decide +kernel) (by decide +kernel) (fun _ _ _ h => h) (Or.inl ⟨by rfl, ?_⟩) (by assumption) ?_
    rotate_left 1
    · (intro w' hSw; go_simp; try with_reducible rfl)
    try simp only [Act.put, List.setIfInBounds_toArray, List.set_cons_zero, List.set_cons_succ]
    refine wpAnyH_take (i := 3) (oi := ⟨some 24, _, _, _, _, _⟩) (v := ?_) rfl (by kernel_rfl) (by decide +kernel) (by decide +kernel) (fun _ _ _ h => h) (Or.inl ⟨by rfl, ?_⟩) (by assumption) ?_
    rotate_left 1
    · (intro w' hSw; have hcell := hSw.2.1; clear hSw; go_simp; try with_reducible rfl)
    try simp only [Act.put, List.setIfInBounds_toArray, List.set_cons_zero, List.set_cons_succ]
    refine wpAnyH_take (i := 4) (oi := ⟨some 25, _, _, _, _, _⟩) (v := ?_) rfl (by kernel_rfl) (by decide +kernel) (by decide +kernel) (fun _ _ _ h => h) (Or.inl ⟨by rfl, ?_⟩) (by assumption) ?_
    rotate_left 1
    · (intro w' hSw; go_simp; try with_reducible rfl)
    try simp only [Act.put, List.setIfInBounds_toArray, List.set_cons_zero, List.set_cons_succ]
    refine wpAnyH_take (i := 5) (oi := ⟨some 26, _, _, _, _, _⟩) (v := ?_) rfl (by kernel_rfl) (by decide +kernel) (by decide +kernel) (fun _ _ _ h => h) (Or.inl ⟨by rfl, ?_⟩) (by assumption) ?_
    rotate_left 1
    · (intro w' hSw; have hcell := hSw.2.2.1; clear hSw; go_simp; try with_reducible rfl)
    try simp only [Act.put, List.setIfInBounds_toArray, List.set_cons_zero, List.set_cons_succ]
    refine wpAnyH_take (i := 6) (oi := ⟨some 27, _, _, _, _, _⟩) (v := ?_) rfl (by kernel_rfl) (by decide +kernel) (by decide +kernel) (fun _ _ _ h => h) (Or.inl ⟨by rfl, ?_⟩) (by assumption) ?_
    rotate_left 1
    · (intro w' hSw; go_simp; try with_reducible rfl)
    try simp only [Act.put, List.setIfInBounds_toArray, List.set_cons_zero, List.set_cons_succ]
    refine wpAnyH_take (i := 7) (oi := ⟨some 28, _, _, _, _, _⟩) (v := ?_) rfl (by kernel_rfl) (by decide +kernel) (by decide +kernel) (fun _ _ _ h => h) (Or.inl ⟨by rfl, ?_⟩) (by assumption) ?_
    rotate_left 1
    · (intro w' hSw; have hcell := hSw.2.2.2; clear hSw; go_simp; try with_reducible rfl)
    try simp only [Act.put, List.setIfInBounds_toArray, List.set_cons_zero, List.set_cons_succ]
    clear hHeld
    have HB0 := Lib.hid (Below.refl w1.heap.size w1).drew
    refine wpAnyH_ready (rs := [8]) (by decide +kernel) (by simp) ?_
    refine AllReadyH.cons rfl (fun K hK => ?_) AllReadyH.nil
    go_simp
    have hal := HB0.out.alloc HB0.out.size (.cells (yvs (zeroY 32)) 24)
    have hxl := heap_alloc_new (w1.drew) (.cells (yvs (zeroY 32)) 24)
    have hst := (Below.refl (w1.drew).heap.size (w1.drew)).alloc (Nat.le_refl _) (.cells (yvs (zeroY 32)) 24)
    refine hK.out _ _ (HS.out _ hal) (fun hHeld => ?_)
    clear hK K hHeld
    try simp only [Act.put, List.setIfInBounds_toArray, List.set_cons_zero, List.set_cons_succ]
    refine (show ∀ wa1 : World, wa1 = (w1.drew).alloc (.cells (yvs (zeroY 32)) 24) → _ from ?_) _ rfl
    intro wa1 ew
    rw [← ew] at hal hxl hst
    have HF01 := Lib.hid (show wa1.heap[w1.heap.size]? = _ from hxl)
    have HG01 := Lib.hid (show w1.heap.size ≤ w1.heap.size from HB0.out.size)
    have HB1 := Lib.hid hal
    clear ew hal hxl hst
    refine wpAnyH_ready (rs := [9]) (by decide +kernel) (by simp) ?_
    refine AllReadyH.cons rfl (fun K hK => ?_) AllReadyH.nil
    rw [if_pos (by kernel_rfl)]
    refine wp_store_row (o := ⟨none, .store _ (.tmp 3) _, _, _, _, _⟩) 24 _ _ rfl (w1.heap.size) (yvs k) rfl rfl 24 (yvs (zeroY 32)) (show (wa1).heap[w1.heap.size]? = _ from HF01.out) Sk.out Ek.out (yvs_one _) ?_
    refine hK.out _ _ (HS.out _ (ybelow_row HB1.out HG01.out (yvs k))) (fun hHeld => ?_)
    clear hK K hHeld
    simp only [Act.put]
    have hHeld := HS.out _ (ybelow_row HB1.out HG01.out (yvs k))
    refine wpAnyH_take (i := 10) (oi := ⟨some 4, _, _, _, _, _⟩) (v := ?_) rfl (by kernel_rfl) (by decide +kernel) (by decide +kernel) (fun _ _ _ h => h) (Or.inl ⟨by rfl, ?_⟩) (by assumption) ?_
    rotate_left 1
    · (intro w' hSw; go_simp; try with_reducible rfl)
    try simp only [Act.put, List.setIfInBounds_toArray, List.set_cons_zero, List.set_cons_succ]
    refine wpAnyH_take (i := 11) (oi := ⟨some 5, _, _, _, _, _⟩) (v := ?_) rfl (by kernel_rfl) (by decide +kernel) (by decide +kernel) (fun _ _ _ h => h) (Or.inl ⟨by rfl, ?_⟩) (by assumption) ?_
    rotate_left 1
    · (intro w' hSw; go_simp; try with_reducible rfl)
    try simp only [Act.put, List.setIfInBounds_toArray, List.set_cons_zero, List.set_cons_succ]
    refine wpAnyH_take (i := 12) (oi := ⟨some 6, _, _, _, _, _⟩) (v := ?_) rfl (by kernel_rfl) (by decide +kernel) (by decide +kernel) (fun _ _ _ h => h) (Or.inl ⟨by rfl, ?_⟩) (by assumption) ?_
    rotate_left 1
    · (intro w' hSw; go_simp; try with_reducible rfl)
    try simp only [Act.put, List.setIfInBounds_toArray, List.set_cons_zero, List.set_cons_succ]
    clear hHeld
    refine wpAnyH_done (by decide +kernel) ?_ _
    refine NoPanic.normal ?_
    go_wp2_with fail
    go_meet
    exact ⟨w1.heap.size, rfl, rfl, rfl, rfl, (ybelow_row HB1.out HG01.out (yvs k)), (setRow_heap _ _ _ (yvs k) _ _ HF01.out), HG01.out⟩
  case rest =>
    obtain ⟨X, rfl, rfl, rfl, rfl, hbc, hX, hgX⟩ := hcut
    have HBC := Lib.hid (HBW1.out.trans (hbc.mono HBW1.out.size))
    have HXX := Lib.hid hX
    have HGX := Lib.hid (Nat.le_trans HBW1.out.size hgX)
    clear hgX
    clear hbc HS HBW1 hz32 hX
    obtain ⟨a, rfl⟩ : ∃ a : Nat, bi = (a : Int) := ⟨bi.toNat, by omega⟩
    obtain ⟨c, rfl⟩ : ∃ c : Nat, ad = (c : Int) := ⟨ad.toNat, by omega⟩
    have HBT := Lib.hid ((bts_of hb3 rfl hb1 hb2).below HBC.out)
    have HAC := Lib.hid (show a < 18446744073709551616 ∧ c < 4294967296 from ⟨by omega, by omega⟩)
    generalize toY b = Y at *
    generalize hn : b.length = n at *
    have nI : (n : Int) ≤ 140737488351232 := by omega
    by_cases hbig : 600 < n
    · have hbI : (600 : Int) < (n : Int) := by omega
      clear hbig hn bi0 bi1 ad0 ad1 hb1 hb2 hb3
      go_wp2_with fail
      go_ret
      exact ⟨rfl, HBC.out⟩
    have hsI : (n : Int) ≤ 600 := by omega
    clear hbig hn bi0 bi1 ad0 ad1 hb1 hb2 hb3
    have HP := Lib.hid (fun (W : World) (hb : Below w.heap.size w W) (ht : Bts W ba n bc Y) => pseal12_any k (zeroY 32) a c Y ba n bc W (HK.out.below hb HK.out.pos) HLk.out rfl ht HAC.out.1 HAC.out.2)
    have HQ := Lib.hid (fun (W : World) (ht : Bts W ba n bc Y) => rseal12_any k (zeroY 32) a c Y ba n bc W HLk.out rfl ht HAC.out.1 HAC.out.2)
    obtain ⟨SA, PA, EA, hsa⟩ : ∃ S P E, sealA k a c Y = (S, P, E) := ⟨_, _, _, rfl⟩
    rw [hsa] at HP HQ
    have HO := Lib.hid (fun (W : World) (x : Option Addr) (y z : Nat) (hb : Below w.heap.size w W) (ht : Bts W x y z SA) => popen12_any k (zeroY 32) PA SA x y z W (HK.out.below hb HK.out.pos) HLk.out rfl ht)
    have HQO := Lib.hid (fun (W : World) (x : Option Addr) (y z : Nat) (ht : Bts W x y z SA) => ropen12_any k (zeroY 32) PA SA x y z W HLk.out rfl ht)
    obtain ⟨OA, OE, hoa⟩ : ∃ S E, openA k PA SA = (S, E) := ⟨_, _, rfl⟩
    rw [hoa] at HO HQO
    have HTA := Lib.hid (fun W => rtable_any W)
    have hkz : (k ++ zeroY 32).length = 64 := by rw [List.length_append, HLk.out]; rfl
    have SK := Lib.hid (size_keys _ hkz)
    have SR := Lib.hid (size_rkeys _ hkz)
    have SL := Lib.hid (show (yvs (zeroY 64)).size = (yvs (k ++ zeroY 32)).size by rw [yvs_size, yvs_size, hkz]; rfl)
    have SO := Lib.hid (yvs_one (k ++ zeroY 32))
    have HBP := Lib.hid (penc_build k HLk.out)
    have HBR := Lib.hid (renc_build k HLk.out)
    have ST := Lib.hid (size_t256 boxesL boxes_length)
    have SU := Lib.hid (show (yvs (zeroY 256)).size = (yvs boxesL).size by rw [yvs_size, yvs_size, boxes_length]; rfl)
    have SV := Lib.hid (yvs_one boxesL)
    have SP := Lib.hid (size_ptrA PA)
    have SQ := Lib.hid (show (ptrRow zeroPtr).toArray.size = (ptrRow PA).toArray.size by simp [ptrRow_length])
    have SW := Lib.hid (ptrRow_one PA)
    have heq := eq_ptr PA PA
    simp only [decide_true] at heq
    have hz1 := zero_rkeys
    have hz2 : ∀ W : World, (zeroValue 38).run Tryd.prog W = .ok (.agg (yvs (zeroY 256))) W := fun W => zero_t256 W
    have hz3 := zero_ptr
    clear hsa hoa hkz
    dsimp only at HP HQ HO HQO
    generalize (ptrRow PA).toArray = PR at *
    generalize (ptrRow zeroPtr).toArray = PZ at *
    generalize yvs (k ++ zeroY 32) = KM at *
    generalize yvs (zeroY 64) = ZK at *
    generalize yvs (zeroY 256) = ZT at *
    generalize yvs boxesL = TB at *
    generalize yvs k = YK at *
    go_wp2_with fail
    refine (HTA.out _).mono ?_
    rintro e w6 ⟨rfl, hb⟩
    have RX101 := Lib.hid ((hb.block _ (lt_of_block HXX.out)).trans HXX.out)
    have TI101 := Lib.hid (HBT.out.below hb)
    have HB101 := Lib.hid (HBC.out.trans (hb.mono HBC.out.size))
    clear HXX HBT HBC
    clear hb
    go_upto_region 7 with (first
      | (with_reducible refine wpList_store_row (o := ⟨none, .store _ (.tmp 7) _, _, _, _, _⟩) rfl 38 _ _ rfl w6.heap.size TB rfl rfl 38 ZT (heap_alloc_new w6 _) ST.out SU.out SV.out ?_))
    generalize hWs : World.setRow _ w6.heap.size _ = ws102
    obtain ⟨r1, hb⟩ := fresh_one w6 ZT TB 38 ws102 hWs.symm
    have RNT := Lib.hid r1
    have RX103 := Lib.hid ((hb.block _ (lt_of_block RX101.out)).trans RX101.out)
    have TI103 := Lib.hid (TI101.out.below hb)
    have HB103 := Lib.hid (HB101.out.trans (hb.mono HB101.out.size))
    clear RX101 TI101 HB101
    clear hWs r1 hb
    generalize w6.heap.size = BT at *
    go_upto_region 8 with (first
      | (with_reducible refine wpList_load_row (o := ⟨some 33, _, _, _, _, _⟩) rfl 24 _ rfl X rfl 24 YK (0, 0) _ RX103.out Tryd.underlying24 rfl Sk.out ?_)
      | (with_reducible refine wpList_build_run (o := ⟨some 34, _, _, _, _, _⟩) rfl 31 _ rfl #[(0, .agg YK)] (by simp [Act.eval, Act.put]) (.agg KM) (HBR.out _) ?_)
      | (with_reducible refine wpList_store_row (o := ⟨none, .store _ (.tmp 8) _, _, _, _, _⟩) rfl 31 _ _ rfl ws102.heap.size KM rfl rfl 31 ZK (heap_alloc_new ws102 _) SR.out SL.out SO.out ?_))
    generalize hWs : World.setRow _ ws102.heap.size _ = ws104
    obtain ⟨r1, hb⟩ := fresh_one ws102 ZK KM 31 ws104 hWs.symm
    have RNQ := Lib.hid r1
    have RX105 := Lib.hid ((hb.block _ (lt_of_block RX103.out)).trans RX103.out)
    have RT105 := Lib.hid ((hb.block _ (lt_of_block RNT.out)).trans RNT.out)
    have TI105 := Lib.hid (TI103.out.below hb)
    have HB105 := Lib.hid (HB103.out.trans (hb.mono HB103.out.size))
    clear RX103 RNT TI103 HB103
    clear hWs r1 hb
    generalize ws102.heap.size = BQ at *
    go_wp2_with (first
      | (with_reducible refine wpList_load_row (o := ⟨some 36, _, _, _, _, _⟩) rfl 24 _ rfl X rfl 24 YK (0, 0) _ RX105.out Tryd.underlying24 rfl Sk.out ?_)
      | (with_reducible refine wpList_build_run (o := ⟨some 37, _, _, _, _, _⟩) rfl 28 _ rfl #[(0, .agg YK)] (by simp [Act.eval, Act.put]) (.agg KM) (HBP.out _) ?_))
    refine (HP.out _ HB105.out TI105.out).mono ?_
    rintro e w8 ⟨x8, y8, z8, rfl, ht8, hb⟩
    have HT8 := Lib.hid ht8
    have RX106 := Lib.hid ((hb.block _ (lt_of_block RX105.out)).trans RX105.out)
    have RT106 := Lib.hid ((hb.block _ (lt_of_block RT105.out)).trans RT105.out)
    have RQ106 := Lib.hid ((hb.block _ (lt_of_block RNQ.out)).trans RNQ.out)
    have TI106 := Lib.hid (TI105.out.below hb)
    have HB106 := Lib.hid (HB105.out.trans (hb.mono HB105.out.size))
    clear RX105 RT105 RNQ TI105 HB105
    clear hb ht8
    go_upto_region 9 with (first
      | (with_reducible refine wpList_store_row (o := ⟨none, .store _ (.tmp 10) _, _, _, _, _⟩) rfl 41 _ _ rfl w8.heap.size PR rfl rfl 41 PZ (heap_alloc_new w8 _) SP.out SQ.out SW.out ?_))
    generalize hWs : World.setRow _ w8.heap.size _ = ws107
    obtain ⟨r1, hb⟩ := fresh_one w8 PZ PR 41 ws107 hWs.symm
    have RNA := Lib.hid r1
    have RX108 := Lib.hid ((hb.block _ (lt_of_block RX106.out)).trans RX106.out)
    have RT108 := Lib.hid ((hb.block _ (lt_of_block RT106.out)).trans RT106.out)
    have RQ108 := Lib.hid ((hb.block _ (lt_of_block RQ106.out)).trans RQ106.out)
    have TI108 := Lib.hid (TI106.out.below hb)
    have TP108 := Lib.hid (HT8.out.below hb)
    have HB108 := Lib.hid (HB106.out.trans (hb.mono HB106.out.size))
    clear RX106 RT106 RQ106 TI106 HT8 HB106
    clear hWs r1 hb
    generalize w8.heap.size = BA at *
    go_wp2_with (first
      | (with_reducible refine wpList_load_row (o := ⟨some 46, _, _, _, _, _⟩) rfl 38 _ rfl BT rfl 38 TB (0, 0) _ RT108.out Tryd.underlying38 rfl ST.out ?_)
      | (with_reducible refine wpList_load_row (o := ⟨some 47, _, _, _, _, _⟩) rfl 31 _ rfl BQ rfl 31 KM (0, 0) _ RQ108.out Tryd.underlying31 rfl SR.out ?_))
    refine (HQ.out _ TI108.out).mono ?_
    rintro e w9 ⟨x9, y9, z9, rfl, ht9, hb⟩
    have HT9 := Lib.hid ht9
    have RX109 := Lib.hid ((hb.block _ (lt_of_block RX108.out)).trans RX108.out)
    have RT109 := Lib.hid ((hb.block _ (lt_of_block RT108.out)).trans RT108.out)
    have RQ109 := Lib.hid ((hb.block _ (lt_of_block RQ108.out)).trans RQ108.out)
    have RA109 := Lib.hid ((hb.block _ (lt_of_block RNA.out)).trans RNA.out)
    have TI109 := Lib.hid (TI108.out.below hb)
    have TP109 := Lib.hid (TP108.out.below hb)
    have HB109 := Lib.hid (HB108.out.trans (hb.mono HB108.out.size))
    clear RX108 RT108 RQ108 RNA TI108 TP108 HB108
    clear hb ht9
    go_upto_region 10 with (first
      | (with_reducible refine wpList_store_row (o := ⟨none, .store _ (.tmp 13) _, _, _, _, _⟩) rfl 41 _ _ rfl w9.heap.size PR rfl rfl 41 PZ (heap_alloc_new w9 _) SP.out SQ.out SW.out ?_))
    generalize hWs : World.setRow _ w9.heap.size _ = ws110
    obtain ⟨r1, hb⟩ := fresh_one w9 PZ PR 41 ws110 hWs.symm
    have RND := Lib.hid r1
    have RX111 := Lib.hid ((hb.block _ (lt_of_block RX109.out)).trans RX109.out)
    have RT111 := Lib.hid ((hb.block _ (lt_of_block RT109.out)).trans RT109.out)
    have RQ111 := Lib.hid ((hb.block _ (lt_of_block RQ109.out)).trans RQ109.out)
    have RA111 := Lib.hid ((hb.block _ (lt_of_block RA109.out)).trans RA109.out)
    have TI111 := Lib.hid (TI109.out.below hb)
    have TP111 := Lib.hid (TP109.out.below hb)
    have TR111 := Lib.hid (HT9.out.below hb)
    have HB111 := Lib.hid (HB109.out.trans (hb.mono HB109.out.size))
    clear RX109 RT109 RQ109 RA109 TI109 TP109 HT9 HB109
    clear hWs r1 hb
    generalize w9.heap.size = BD at *
    clear hz1 hz2 hz3 HP HQ HTA
    have HSM := Lib.hid (same_eq ws110 _ _ _ TP111.out.1 TR111.out.1)
    go_wp2_with fail
    refine HSM.out.mono ?_
    rintro e wx ⟨rfl, rfl⟩
    by_cases he : EA = 0
    · have he2 : (EA != 0) = false := by simp [he]
      clear he
      go_wp2_with (first
        | (with_reducible refine wpList_load_guarded (o := ⟨some 60, _, _, _, _, _⟩) (by kernel_rfl) 41 _ rfl BA rfl 41 PR (0, 0) _ RA111.out Tryd.underlying41 rfl SP.out ?_)
        | (with_reducible refine wpList_load_guarded (o := ⟨some 61, _, _, _, _, _⟩) (by kernel_rfl) 41 _ rfl BD rfl 41 PR (0, 0) _ RND.out Tryd.underlying41 rfl SP.out ?_)
        | (with_reducible refine wpList_load_row (o := ⟨some 72, _, _, _, _, _⟩) rfl 24 _ rfl X rfl 24 YK (0, 0) _ RX111.out Tryd.underlying24 rfl Sk.out ?_)
        | (with_reducible refine wpList_build_run (o := ⟨some 73, _, _, _, _, _⟩) rfl 28 _ rfl #[(0, .agg YK)] (by simp [Act.eval, Act.put]) (.agg KM) (HBP.out _) ?_)
        | (with_reducible refine wpList_load_row (o := ⟨some 74, _, _, _, _, _⟩) rfl 41 _ rfl BD rfl 41 PR (0, 0) _ RND.out Tryd.underlying41 rfl SP.out ?_))
      refine (HO.out _ x9 y9 z9 HB111.out TR111.out).mono ?_
      rintro e w11 ⟨x10, y10, z10, rfl, ht, hb⟩
      have HT10 := Lib.hid ht
      have RX112 := Lib.hid ((hb.block _ (lt_of_block RX111.out)).trans RX111.out)
      have RT112 := Lib.hid ((hb.block _ (lt_of_block RT111.out)).trans RT111.out)
      have RQ112 := Lib.hid ((hb.block _ (lt_of_block RQ111.out)).trans RQ111.out)
      have RA112 := Lib.hid ((hb.block _ (lt_of_block RA111.out)).trans RA111.out)
      have RD112 := Lib.hid ((hb.block _ (lt_of_block RND.out)).trans RND.out)
      have TI112 := Lib.hid (TI111.out.below hb)
      have TP112 := Lib.hid (TP111.out.below hb)
      have TR112 := Lib.hid (TR111.out.below hb)
      have HB112 := Lib.hid (HB111.out.trans (hb.mono HB111.out.size))
      clear RX111 RT111 RQ111 RA111 RND TI111 TP111 TR111 HB111
      clear hb ht
      go_wp2_with (first
        | (with_reducible refine wpList_load_row (o := ⟨some 80, _, _, _, _, _⟩) rfl 38 _ rfl BT rfl 38 TB (0, 0) _ RT112.out Tryd.underlying38 rfl ST.out ?_)
        | (with_reducible refine wpList_load_row (o := ⟨some 81, _, _, _, _, _⟩) rfl 31 _ rfl BQ rfl 31 KM (0, 0) _ RQ112.out Tryd.underlying31 rfl SR.out ?_)
        | (with_reducible refine wpList_load_row (o := ⟨some 82, _, _, _, _, _⟩) rfl 41 _ rfl BD rfl 41 PR (0, 0) _ RD112.out Tryd.underlying41 rfl SP.out ?_))
      refine (HQO.out _ x9 y9 z9 TR112.out).mono ?_
      rintro e w12 ⟨x11, y11, z11, rfl, ht, hb⟩
      have HT11 := Lib.hid ht
      have RX113 := Lib.hid ((hb.block _ (lt_of_block RX112.out)).trans RX112.out)
      have RT113 := Lib.hid ((hb.block _ (lt_of_block RT112.out)).trans RT112.out)
      have RQ113 := Lib.hid ((hb.block _ (lt_of_block RQ112.out)).trans RQ112.out)
      have RA113 := Lib.hid ((hb.block _ (lt_of_block RA112.out)).trans RA112.out)
      have RD113 := Lib.hid ((hb.block _ (lt_of_block RD112.out)).trans RD112.out)
      have TI113 := Lib.hid (TI112.out.below hb)
      have TP113 := Lib.hid (TP112.out.below hb)
      have TR113 := Lib.hid (TR112.out.below hb)
      have TO113 := Lib.hid (HT10.out.below hb)
      have HB113 := Lib.hid (HB112.out.trans (hb.mono HB112.out.size))
      clear RX112 RT112 RQ112 RA112 RD112 TI112 TP112 TR112 HT10 HB112
      clear hb ht
      have HSN := Lib.hid (same_eq w12 _ _ _ TO113.out.1 HT11.out.1)
      go_wp2_with fail
      refine HSN.out.mono ?_
      rintro e wy ⟨rfl, rfl⟩
      go_wp2_with fail
      go_ret
      exact ⟨by simp, HB113.out⟩
    · have he2 : (EA != 0) = true := by simp [he]
      clear he
      go_wp2_with (first
        | (with_reducible refine wpList_load_guarded (o := ⟨some 60, _, _, _, _, _⟩) (by kernel_rfl) 41 _ rfl BA rfl 41 PR (0, 0) _ RA111.out Tryd.underlying41 rfl SP.out ?_)
        | (with_reducible refine wpList_load_guarded (o := ⟨some 61, _, _, _, _, _⟩) (by kernel_rfl) 41 _ rfl BD rfl 41 PR (0, 0) _ RND.out Tryd.underlying41 rfl SP.out ?_))
      go_ret
      exact ⟨rfl, HB111.out⟩
set_option maxRecDepth 100000 in
theorem lifted (os : Os) (started : os.Started) (H : Type) (enc : TypeId × Value → H) :
    ReturnsInHanded {} Tryd.checked os 4 .any (fun w args => (Rows.sealBlocksSpec.pre enc Tryd.prog Tryd.f4 [] false w args ∧ laidMetH Tryd.prog [("banyan/sha.roundNumbers", Rows.laid_banyan_sha_roundNumbers)] w) ∧ sizedMet enc Tryd.prog Tryd.f4 (OpenSpec.ofChange Rows.sealBlocksSpec) false w args)
      (Rows.sealBlocksSpec.post enc Tryd.prog Tryd.f4 false true false false) := by
  refine returnsInHanded_of_change_and (C := Tryd.checked) (X := fun w _ => laidMetH Tryd.prog [("banyan/sha.roundNumbers", Rows.laid_banyan_sha_roundNumbers)] w) (fun _ _ _ hh h => h.of_heap hh) own2 started (by kernel_rfl) Tryd.func4
    (ChangeSpec.witness_shaped (enc := enc) (C := Tryd.checked) (os := os) (X := fun w _ => laidMetH Tryd.prog [("banyan/sha.roundNumbers", Rows.laid_banyan_sha_roundNumbers)] w) false (World.doorLaid Tryd.prog 400 os) #[.agg (List.replicate 32 (Value.int .u8 0) ++ ([Value.int .u64 0] ++ ([Value.int .u32 0] ++ ([Value.slice none 0 0])))).toArray] 8 rfl (World.shaped_of_RefB (by kernel_rfl) (by kernel_rfl)) (by kernel_rfl) (by kernel_rfl) (by kernel_rfl) (door_met os _)) ?_
  intro W base args ds gs before hval0 hW _ hsz0 hL _
  have hval : ∀ (j : Nat) t v, Tryd.f4.params[j]? = some t → args[j]? = some v → Value.okWide Tryd.prog W .any base t v := hval0
  have hsz : (DataW.weightsEach Tryd.prog (Tryd.f4.params.toList ++ Rows.sealBlocksSpec.plain.varTypes Tryd.prog) (ds ++ gs)).all (· ≤ reachBytes) = true := hsz0
  clear hsz0
  have hW' := hW
  obtain ⟨p, q, hA0, hV, rfl, hfz, hnd⟩ := hW
  have hA : DataW.TrodAll enc Tryd.prog W 0 (fun _ => true) true Tryd.f4.params.toList args.toList ds p := hA0
  rw [Tryd.params4] at hA hval hsz
  obtain ⟨v0, vs0, d0, ds0, p0, q0, hargs, rfl, rfl, h0, r0⟩ := trodAll_cons hA
  obtain ⟨rfl, rfl, rfl⟩ := trodAll_nil r0
  obtain rfl : args = #[v0] := by cases args; simp_all
  obtain ⟨rfl, rfl⟩ := trodVars_none hV
  have k0 := h0
  have lt0 : ∀ x ∈ p0, x.block < W.heap.size := by obtain ⟨m, hm⟩ := k0; exact DataW.trod_lt m _ _ _ hm
  obtain ⟨k, bi, ad, ba, bc, b, rfl, qf⟩ := par_born12 (j := 0) (hval 0 37 v0 rfl rfl) h0 hsz rfl rfl
  have hK := of_laid hL
  clear hA0 hval0
  refine (walk W k bi ad ba bc b qf hK).mono fun e W' ⟨he, bel⟩ => ?_
  subst he
  exact ⟨_, rfl, _, _, _, [], _, [], hW', trodAll_mk1 (shut_bool Tryd.underlying4 _), (trodAll_cons_mk (Below.trod laidOut2 (by kernel_rfl) (of_decide_eq_true (by kernel_rfl)) k0 bel lt0) trodAll_mk0), rfl, bel.frame _, fun h => by cases h⟩

theorem over : Rows.SealBlocksSaid :=
  OpenClaim.holds_of_wide 4 Tryd.f4 rfl rfl rfl rfl rfl rfl rfl ⟨rfl, rfl, rfl, rfl, rfl⟩ rfl rfl rfl rfl rfl (by kernel_rfl) Tryd.func4 (by kernel_rfl)
    (of_decide_eq_true (by kernel_rfl)) (by unfold Func.isWrapper; first | (rw [if_pos (by decide +kernel)]; kernel_rfl) | (rw [if_neg (by decide +kernel)]; exact ⟨rfl, rfl⟩))
    (fun os started H enc _ => lifted os started H enc)

/-- The statement. -/
theorem proved : Rows.SealBlocksCardSaid :=
  Claim7.holds_tied_plain_at .later [] [.data] true (true, "0131f9f1a1f02ebf5a16687d2fe8903395483cdb43346dae7a1c73827a36235e") false
    over (fun _ h => by cases h) (by kernel_rfl) (fun _ h => by cases h) sealBlocks_row_tie rfl ⟨rfl, rfl⟩ (by kernel_rfl) rfl
    (fun f fn hf hfn => by
      obtain rfl : f = 4 := Option.some.inj ((show Tryd.prog.funcNamed "banyan/banyanlaw12.SealBlocks" = some 4 by kernel_rfl).symm.trans hf) |>.symm
      obtain rfl : fn = Tryd.f4 := (Option.some.inj (Tryd.func4.symm.trans hfn)).symm
      exact ⟨by kernel_rfl, fun j t ht => by
        rw [Tryd.params4] at ht
        have hm : t ∈ [37] := by simpa using Array.mem_of_getElem? ht
        have hall : ([37].all fun u => !Tryd.prog.wantsStandIn u) = true := by kernel_rfl
        exact (show Tryd.prog.wantsStandIn t = false by simpa using List.all_eq_true.1 hall t hm)⟩)
    (by kernel_rfl)
#print axioms proved
end Go.Proofs.YtfgdddejpdjllaaDoor.sealBlocks
