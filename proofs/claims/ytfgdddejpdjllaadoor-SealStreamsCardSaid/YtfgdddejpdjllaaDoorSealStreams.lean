/-
  'SealStreams' returns true at every input, and each argument reads behind the call as it read before. Conditions: the package-level variable that the row lists starts as the program's text lays it (the card ties that).
-/
import Derived.Test.YtfgdddejpdjllaaDoorLaid
import Derived.Test.YtfgdddejpdjllaaDoorCards
import Derived.Test.YtfgdddejpdjllaaDoorTie
import Derived.Test.YtfgdddejpdjllaaDoorEj
import Derived.Deep.CutRange
import Derived.Deep.DeepCutAuto
import Derived.BigQuiet
namespace Go.Proofs.YtfgdddejpdjllaaDoor.sealStreams
open Go.ChangeShapes Go.WideShapes Go.ChangeAt Go.RowKit
set_option linter.unusedVariables false


set_option maxRecDepth 100000 in
set_option maxHeartbeats 1600000 in
theorem walk (w : World) (k : List (BitVec 8)) (bi : Int) (ad : Int) (ba : Option Addr) (bc : Nat) (b : List Int) (qf : k.length = 32 ∧ (0 ≤ bi ∧ bi ≤ 4294967295) ∧ (0 ≤ ad ∧ ad ≤ 65535) ∧ (b.length ≤ bc ∧ bc ≤ 140737488351232 ∧ BS w (.slice ba b.length bc) b)) (hK : KT w) :
    Calls Tryd.prog 7 #[.agg (stream12Cells k bi ad ba bc b).toArray] w fun e w' => e = .returned (.bool true) ∧ Below w.heap.size w w' := by
  obtain ⟨hk, ⟨bi0, bi1⟩, ⟨ad0, ad1⟩, hb1, hb2, hb3⟩ := qf
  have HLk := Lib.hid hk
  have HAL := Lib.hid (fun (W : World) (hb : Below w.heap.size w W) => alive12_any W (hK.below hb hK.pos))
  have HK := Lib.hid hK
  have hA0 := heap_alloc_new w (.cells (stream12Cells k bi ad ba bc b).toArray 62)
  have hB0 := (Below.refl w.heap.size w).alloc (Nat.le_refl _) (.cells (stream12Cells k bi ad ba bc b).toArray 62)
  have Ik := Lib.hid (info_rkeyL k hk)
  have Sk := Lib.hid (size_arr32 k hk)
  have Ek := Lib.hid (show (yvs (zeroY 32)).size = (yvs k).size by rw [yvs_size, yvs_size, hk]; rfl)
  have HCL := Lib.hid (fun (W : World) (h : W.heap[w.heap.size]? = some (.cells (stream12Cells k bi ad ba bc b).toArray 62 (0, 0))) => show W.rangeAt w.heap.size 0 (yvs k).toList ∧ W.cell? ⟨w.heap.size, 32, none⟩ = some (.int .u32 bi) ∧ W.cell? ⟨w.heap.size, 33, none⟩ = some (.int .u16 ad) ∧ W.cell? ⟨w.heap.size, 34, none⟩ = some (.slice ba b.length bc) from stream12_at k bi ad ba bc b h hk)
  clear hK hk
  generalize hcl : (stream12Cells k bi ad ba bc b).toArray = CL at *
  clear hcl
  have hz32 := zero_arr32
  go_enter Tryd.func7, Tryd.ntmps7
  go_wp2_with fail
  refine (HAL.out _ hB0).mono ?_
  rintro e w1 ⟨rfl, hb1⟩
  have hA1 := (hb1.block w.heap.size (lt_of_block hA0)).trans hA0
  have HBW1 := Lib.hid (hB0.trans (hb1.mono hB0.size))
  have HS := Lib.hid (show ∀ W, Below w1.heap.size w1 W → W.rangeAt w.heap.size 0 (yvs k).toList ∧ W.cell? ⟨w.heap.size, 32, none⟩ = some (.int .u32 bi) ∧ W.cell? ⟨w.heap.size, 33, none⟩ = some (.int .u16 ad) ∧ W.cell? ⟨w.heap.size, 34, none⟩ = some (.slice ba b.length bc) from fun W hW => HCL.out W ((hW.block _ (lt_of_block hA1)).trans hA1))
  clear hA0 hB0 hb1 hA1 HAL HCL
  go_upto_region 3 with (fail)
  go_cut [3, 4, 5, 6] from 7 (fun v3 v4 v5 v6 wc => ∃ X, v3 = .pointer (some ⟨X, 0, none⟩) ∧ v4 = .int .u32 bi ∧ v5 = .int .u16 ad ∧ v6 = .slice ba b.length bc ∧ Below w1.heap.size w1 wc ∧ wc.heap[X]? = some (.cells (yvs k) 24 (0, 0)) ∧ w1.heap.size ≤ X)
  case first =>
    try simp only [Act.put]
    refine wp_region_noPanic ?_
    refine wp_region_held_drew (S := fun W => W.rangeAt w.heap.size 0 (yvs k).toList ∧ W.cell? ⟨w.heap.size, 32, none⟩ = some (.int .u32 bi) ∧ W.cell? ⟨w.heap.size, 33, none⟩ = some (.int .u16 ad) ∧ W.cell? ⟨w.heap.size, 34, none⟩ = some (.slice ba b.length bc)) (by kernel_rfl) (HS.out _ (Below.refl _ w1).drew) (fun hHeld => ?_)
    refine wpAnyH_take (i := 0) (oi := ⟨some 22, _, _, _, _, _⟩) (v := ?_) rfl (by kernel_rfl) (by decide +kernel) (by decide +kernel) (fun _ _ _ h => h) (Or.inl ⟨by rfl, ?_⟩) (by assumption) ?_
    rotate_left 1
    · (intro w' hSw; go_simp; try with_reducible rfl)
    try simp only [Act.put, List.setIfInBounds_toArray, List.set_cons_zero, List.set_cons_succ]
    refine wpAnyH_take (i := 1) (oi := ⟨some 23, _, _, _, _, _⟩) rfl (by kernel_rfl) (by decide +kernel) (by decide +kernel) (fun _ _ _ h => h) (yieldsIf_load_mid (by rfl) _ _ rfl (w.heap.size) (0) rfl (yvs k).toList _ (fun w' h => h.1) Tryd.underlying24 rfl Ik.out) (by assumption) ?_
    try simp only [Act.put, List.setIfInBounds_toArray, List.set_cons_zero, List.set_cons_succ, Array.toArray_toList]
    refine wpAnyH_take (i := 2) (oi := ⟨some 24, _, _, _, _, _⟩) (v := ?_) rfl (by kernel_rfl) (by decide +kernel) (by decide +kernel) (fun _ _ _ h => h) (Or.inl ⟨by rfl, ?_⟩) (by assumption) ?_
    rotate_left 1
    · (intro w' hSw; go_simp; try with_reducible rfl)
    try simp only [Act.put, List.setIfInBounds_toArray, List.set_cons_zero, List.set_cons_succ]
    refine wpAnyH_take (i := 3) (oi := ⟨some 25, _, _, _, _, _⟩) (v := ?_) rfl (by kernel_rfl) (by decide +kernel) (by decide +kernel) (fun _ _ _ h => h) (Or.inl ⟨by rfl, ?_⟩) (by assumption) ?_
    rotate_left 1
    · (intro w' hSw; have hcell := hSw.2.1; clear hSw; go_simp; try with_reducible rfl)
    try simp only [Act.put, List.setIfInBounds_toArray, List.set_cons_zero, List.set_cons_succ]
    refine wpAnyH_take (i := 4) (oi := ⟨some 26, _, _, _, _, _⟩) (v := ?_) rfl (by kernel_rfl) (by decide +kernel) (by decide +kernel) (fun _ _ _ h => h) (Or.inl ⟨by rfl, ?_⟩) (by assumption) ?_
    rotate_left 1
    · (intro w' hSw; go_simp; try with_reducible rfl)
    try simp only [Act.put, List.setIfInBounds_toArray, List.set_cons_zero, List.set_cons_succ]
    refine wpAnyH_take (i := 5) (oi := ⟨some 27, _, _, _, _, _⟩) (v := ?_) rfl (by kernel_rfl) (by decide +kernel) (by decide +kernel) (fun _ _ _ h => h) (Or.inl ⟨by rfl, ?_⟩) (by assumption) ?_
    rotate_left 1
    · (intro w' hSw; have hcell := hSw.2.2.1; clear hSw; go_simp; try with_reducible rfl)
    try simp only [Act.put, List.setIfInBounds_toArray, List.set_cons_zero, List.set_cons_succ]
    refine wpAnyH_take (i := 6) (oi := ⟨some 28, _, _, _, _, _⟩) (v := ?_) rfl (by kernel_rfl) (by decide +kernel) (by decide +kernel) (fun _ _ _ h => h) (Or.inl ⟨by rfl, ?_⟩) (by assumption) ?_
    rotate_left 1
    · (intro w' hSw; go_simp; try with_reducible rfl)
    try simp only [Act.put, List.setIfInBounds_toArray, List.set_cons_zero, List.set_cons_succ]
    refine wpAnyH_take (i := 7) (oi := ⟨some 29, _, _, _, _, _⟩) (v := ?_) rfl (by kernel_rfl) (by decide +kernel) (by decide +kernel) (fun _ _ _ h => h) (Or.inl ⟨by rfl, ?_⟩) (by assumption) ?_
    rotate_left 1
    · (intro w' hSw; have hcell := hSw.2.2.2; clear hSw; go_simp; try with_reducible rfl)
    try simp only [Act.put, List.setIfInBounds_toArray, List.set_cons_zero, List.set_cons_succ]
    clear hHeld
    have HB0 := Lib.hid (Below.refl w1.heap.size w1).drew
    refine wpAnyH_ready (rs := [8]) (by decide +kernel) (by simp) ?_
    refine AllReadyH.cons rfl (fun K hK => ?_) AllReadyH.nil
    go_simp
    have hal := HB0.out.alloc HB0.out.size (.cells (yvs (zeroY 32)) 24)
    have hxl := heap_alloc_new (w1.drew) (.cells (yvs (zeroY 32)) 24)
    have hst := (Below.refl (w1.drew).heap.size (w1.drew)).alloc (Nat.le_refl _) (.cells (yvs (zeroY 32)) 24)
    refine hK.out _ _ (HS.out _ hal) (fun hHeld => ?_)
    clear hK K hHeld
    try simp only [Act.put, List.setIfInBounds_toArray, List.set_cons_zero, List.set_cons_succ]
    refine (show ∀ wa1 : World, wa1 = (w1.drew).alloc (.cells (yvs (zeroY 32)) 24) → _ from ?_) _ rfl
    intro wa1 ew
    rw [← ew] at hal hxl hst
    have HF01 := Lib.hid (show wa1.heap[w1.heap.size]? = _ from hxl)
    have HG01 := Lib.hid (show w1.heap.size ≤ w1.heap.size from HB0.out.size)
    have HB1 := Lib.hid hal
    clear ew hal hxl hst
    refine wpAnyH_ready (rs := [9]) (by decide +kernel) (by simp) ?_
    refine AllReadyH.cons rfl (fun K hK => ?_) AllReadyH.nil
    rw [if_pos (by kernel_rfl)]
    refine wp_store_row (o := ⟨none, .store _ (.tmp 3) _, _, _, _, _⟩) 24 _ _ rfl (w1.heap.size) (yvs k) rfl rfl 24 (yvs (zeroY 32)) (show (wa1).heap[w1.heap.size]? = _ from HF01.out) Sk.out Ek.out (yvs_one _) ?_
    refine hK.out _ _ (HS.out _ (ybelow_row HB1.out HG01.out (yvs k))) (fun hHeld => ?_)
    clear hK K hHeld
    simp only [Act.put]
    have hHeld := HS.out _ (ybelow_row HB1.out HG01.out (yvs k))
    refine wpAnyH_take (i := 10) (oi := ⟨some 4, _, _, _, _, _⟩) (v := ?_) rfl (by kernel_rfl) (by decide +kernel) (by decide +kernel) (fun _ _ _ h => h) (Or.inl ⟨by rfl, ?_⟩) (by assumption) ?_
    rotate_left 1
    · (intro w' hSw; go_simp; try with_reducible rfl)
    try simp only [Act.put, List.setIfInBounds_toArray, List.set_cons_zero, List.set_cons_succ]
    refine wpAnyH_take (i := 11) (oi := ⟨some 5, _, _, _, _, _⟩) (v := ?_) rfl (by kernel_rfl) (by decide +kernel) (by decide +kernel) (fun _ _ _ h => h) (Or.inl ⟨by rfl, ?_⟩) (by assumption) ?_
    rotate_left 1
    · (intro w' hSw; go_simp; try with_reducible rfl)
    try simp only [Act.put, List.setIfInBounds_toArray, List.set_cons_zero, List.set_cons_succ]
    refine wpAnyH_take (i := 12) (oi := ⟨some 6, _, _, _, _, _⟩) (v := ?_) rfl (by kernel_rfl) (by decide +kernel) (by decide +kernel) (fun _ _ _ h => h) (Or.inl ⟨by rfl, ?_⟩) (by assumption) ?_
    rotate_left 1
    · (intro w' hSw; go_simp; try with_reducible rfl)
    try simp only [Act.put, List.setIfInBounds_toArray, List.set_cons_zero, List.set_cons_succ]
    clear hHeld
    refine wpAnyH_done (by decide +kernel) ?_ _
    refine NoPanic.normal ?_
    go_wp2_with fail
    go_meet
    exact ⟨w1.heap.size, rfl, rfl, rfl, rfl, (ybelow_row HB1.out HG01.out (yvs k)), (setRow_heap _ _ _ (yvs k) _ _ HF01.out), HG01.out⟩
  case rest =>
    obtain ⟨X, rfl, rfl, rfl, rfl, hbc, hX, hgX⟩ := hcut
    have HBC := Lib.hid (HBW1.out.trans (hbc.mono HBW1.out.size))
    have HXX := Lib.hid hX
    have HGX := Lib.hid (Nat.le_trans HBW1.out.size hgX)
    clear hgX
    clear hbc HS HBW1 hz32 hX
    obtain ⟨a0, rfl⟩ : ∃ a : Nat, bi = (a : Int) := ⟨bi.toNat, by omega⟩
    obtain ⟨c0, rfl⟩ : ∃ c : Nat, ad = (c : Int) := ⟨ad.toNat, by omega⟩
    have HI0 := Lib.hid (bts_of hb3 rfl hb1 hb2)
    generalize toY b = Y at *
    generalize hn : b.length = n at *
    have nI : (n : Int) ≤ 140737488351232 := by omega
    by_cases hbig : 600 < n
    · have hbI : (600 : Int) < (n : Int) := by omega
      clear hbig hn bi0 bi1 ad0 ad1 hb1 hb2 hb3
      go_wp2_with fail
      go_ret
      exact ⟨rfl, HBC.out⟩
    have hsI : (n : Int) ≤ 600 := by omega
    have HNS := Lib.hid (show n ≤ 600 by omega)
    obtain ⟨a, ha⟩ : ∃ a : Nat, (a0 : Int) + 1 = (a : Int) := ⟨a0 + 1, by simp⟩
    obtain ⟨c, hc⟩ : ∃ c : Nat, 2 + (c0 : Int) % 4000 = (c : Int) := ⟨2 + c0 % 4000, by simp⟩
    have HAC := Lib.hid (show a < 18446744073709551616 ∧ a ≠ 0 ∧ 2 ≤ c ∧ c < 4096 ∧ c < 4294967296 from ⟨by omega, by omega, by omega, by omega, by omega⟩)
    have hw1 : IntKind.u64.wrap ((a0 : Int) + 1) = (a0 : Int) + 1 := IntWalk.u64_in _ (by omega)
    have hw2 : IntKind.u32.wrap (2 + (c0 : Int) % 4000) = 2 + (c0 : Int) % 4000 := IntWalk.u32_in _ (by omega)
    have HA := Lib.hid ha
    have HCC := Lib.hid hc
    have aB : (a0 : Int) ≤ 4294967295 := bi1
    have cB : (c0 : Int) ≤ 65535 := ad1
    clear hbig hn ha hc hb1 hb2 hb3 bi1 ad1
    go_upto_region 7 with fail
    simp only [HA.out, HCC.out]
    clear hw1 hw2 aB cB bi0 ad0 HA HCC hsI nI
    have hkz : (k ++ zeroY 32).length = 64 := by rw [List.length_append, HLk.out]; rfl
    have SK := Lib.hid (size_keys _ hkz)
    have IK := Lib.hid (info_keys64 _ hkz)
    have SL := Lib.hid (show (yvs (zeroY 64)).size = (yvs (k ++ zeroY 32)).size by rw [yvs_size, yvs_size, hkz]; rfl)
    have SO := Lib.hid (yvs_one (k ++ zeroY 32))
    have HBP := Lib.hid (penc_build k HLk.out)
    have hz1 := zero_keys
    have hz := zero_ptr
    clear hkz
    have HBLK := Lib.hid (fun (W : World) (hb : Below w.heap.size w W) => block_any Y ba n bc W (HI0.out.below hb) (by have := HNS.out; omega))
    have HBLN := Lib.hid (fun (W : World) => block_nil none 0 W)
    rw [blockL_nil] at HBLN
    have HBL := Lib.hid (blockL_length Y)
    generalize blockL Y = BA at *
    have HSEA := Lib.hid (fun (W : World) (g : Nat) (hW : Below w.heap.size w W) (hg : ArrY W g 5 BA) => pseal_ok k (zeroY 32) a c BA (some ⟨g, 0, none⟩) 512 W (HK.out.below hW HK.out.pos) HLk.out rfl HBL.out (BS.of_arr0 hg HBL.out) HAC.out.1 HAC.out.2.1 HAC.out.2.2.1 HAC.out.2.2.2.1)
    have HSEB := Lib.hid (fun (W : World) (g : Nat) (hW : Below w.heap.size w W) (hg : ArrY W g 5 (zeroY 512)) => pseal_ok k (zeroY 32) a c (zeroY 512) (some ⟨g, 0, none⟩) 512 W (HK.out.below hW HK.out.pos) HLk.out rfl (by simp [zeroY]) (BS.of_arr0 hg (by simp [zeroY])) HAC.out.1 HAC.out.2.1 HAC.out.2.2.1 HAC.out.2.2.2.1)
    have HMD := Lib.hid (fun W => made_any a c W HAC.out.2.2.2.2)
    have HST := Lib.hid (fun W => show Calls Tryd.prog 23 #[.agg (yvs k), .agg (yvs (beY 8 a ++ beY 4 c)), .int .i64 0, .int .i64 512] W fun e w' => e = .returned (.tuple #[.slice (some ⟨W.heap.size + 1 + 1, 0, none⟩) 512 512, .int .i64 0]) ∧ ArrY w' (W.heap.size + 1 + 1) 5 (strL (keysL k) (beY 8 a ++ beY 4 c) 0 512) ∧ Below W.heap.size W w' from
      stream_ok k (beY 8 a ++ beY 4 c) 0 512 W HLk.out (by simp [beY_length]) (by decide) (by decide))
    have hss : sealS k a c (zeroY 512) = strL (keysL k) (beY 8 a ++ beY 4 c) 0 512 := sumB_zero 512 _ (strL_length _ _ _ _)
    have hsa : sealS k a c BA = sumB BA (strL (keysL k) (beY 8 a ++ beY 4 c) 0 512) := rfl
    rw [hss] at HSEB
    rw [hsa] at HSEA
    have hsl := strL_length (keysL k) (beY 8 a ++ beY 4 c) 0 512
    clear hss hsa
    generalize strL (keysL k) (beY 8 a ++ beY 4 c) 0 512 = SB at *
    generalize beY 8 a ++ beY 4 c = NL at *
    have HSLB := Lib.hid hsl
    have HSLA := Lib.hid (show (sumB BA SB).length = 512 from sumB_length _ _ _ HBL.out hsl)
    have HSAT := Lib.hid (fun (i : Nat) (hi : i < 512) => show (sumB BA SB).getD i 0 = BA.getD i 0 ^^^ SB.getD i 0 by
      have i1 : i < BA.length := by rw [HBL.out]; exact hi
      have i2 : i < SB.length := by rw [hsl]; exact hi
      simp [sumB, List.getElem?_zipWith, List.getD, i1, i2])
    clear hsl
    generalize sumB BA SB = SA at *
    have SPA := Lib.hid (size_ptrA (ptrOf a c (SA.map yv)))
    have SPB := Lib.hid (size_ptrA (ptrOf a c (SB.map yv)))
    have EPA := Lib.hid (show (ptrRow zeroPtr).toArray.size = (ptrRow (ptrOf a c (SA.map yv))).toArray.size by simp [ptrRow_length])
    have EPB := Lib.hid (show (ptrRow zeroPtr).toArray.size = (ptrRow (ptrOf a c (SB.map yv))).toArray.size by simp [ptrRow_length])
    have OPA := Lib.hid (ptrRow_one (ptrOf a c (SA.map yv)))
    have OPB := Lib.hid (ptrRow_one (ptrOf a c (SB.map yv)))
    generalize ptrOf a c (SA.map yv) = PTA at *
    generalize ptrOf a c (SB.map yv) = PTB at *
    generalize hPRA : (ptrRow PTA).toArray = PRA at *
    generalize hPRB : (ptrRow PTB).toArray = PRB at *
    have HPRA := Lib.hid hPRA
    have HPRB := Lib.hid hPRB
    generalize (ptrRow zeroPtr).toArray = PZ at *
    generalize yvs (k ++ zeroY 32) = KM at *
    generalize yvs (zeroY 64) = ZK at *
    generalize zeroY 512 = ZB at *
    clear hPRA hPRB
    go_upto_region 8 with (first
      | (with_reducible refine wpList_load_row (o := ⟨some 40, _, _, _, _, _⟩) rfl 24 _ rfl X rfl 24 (yvs k) (0, 0) _ HXX.out Tryd.underlying24 rfl Sk.out ?_)
      | (with_reducible refine wpList_build_run (o := ⟨some 41, _, _, _, _, _⟩) rfl 28 _ rfl #[(0, .agg (yvs k))] (by simp [Act.eval, Act.put]) (.agg KM) (HBP.out _) ?_)
      | (with_reducible refine wpList_store_row (o := ⟨none, .store _ (.tmp 9) _, _, _, _, _⟩) rfl 28 _ _ rfl wc.heap.size KM rfl rfl 28 ZK (heap_alloc_new wc _) SK.out SL.out SO.out ?_))
    generalize hWs : World.setRow _ wc.heap.size _ = ws101
    obtain ⟨r1, hb⟩ := fresh_one wc ZK KM 28 ws101 hWs.symm
    have RNK := Lib.hid r1
    have RX102 := Lib.hid ((hb.block _ (lt_of_block HXX.out)).trans HXX.out)
    have HB102 := Lib.hid (HBC.out.trans (hb.mono HBC.out.size))
    clear HXX HBC
    clear hWs r1 hb
    generalize wc.heap.size = BK at *
    clear hz1
    simp only [Act.put]
    have HSV1 := Lib.hid (show ∀ W, Below ws101.heap.size ws101 W → W.rangeAt BK 0 KM.toList from fun W hW => range_of_row (by rw [Array.toArray_toList]; exact (hW.block _ (lt_of_block RNK.out)).trans RNK.out))
    have HBK1 := Lib.hid (fun (W : World) (hW : Below ws101.heap.size ws101 W) => HBLK.out W (HB102.out.trans (hW.mono HB102.out.size)))
    have HSE1 := Lib.hid (fun (W : World) (g : Nat) (hW : Below ws101.heap.size ws101 W) => HSEA.out W g (HB102.out.trans (hW.mono HB102.out.size)))
    have HPR := HPRA
    go_cut [10, 11, 12] from 13 (fun va vb vc wc => ∃ c q, va = .slice (some ⟨c, 0, none⟩) 512 512 ∧ vb = .pointer (some ⟨q, 0, none⟩) ∧ vc = .int .i64 0 ∧ SD ws101 wc c q SA PTA)
    case first =>
      try simp only [Act.put]
      refine wp_region_noPanic ?_
      refine wp_region_held_drew (S := fun W => W.rangeAt BK 0 KM.toList) (by kernel_rfl) (HSV1.out _ (Below.refl _ ws101).drew) (fun hHeld => ?_)
      refine wpAnyH_take (i := 0) (oi := ⟨some 43, _, _, _, _, _⟩) rfl (by kernel_rfl) (by decide +kernel) (by decide +kernel) (fun _ _ _ h => h) (yieldsIf_load_mid (by rfl) _ _ rfl (BK) (0) rfl KM.toList _ (fun w' h => h) Tryd.underlying28 rfl IK.out) (by assumption) ?_
      try simp only [Act.put, List.setIfInBounds_toArray, List.set_cons_zero, List.set_cons_succ, Array.toArray_toList]
      refine wpAnyH_take (i := 1) (oi := ⟨some 44, _, _, _, _, _⟩) (v := ?_) rfl (by kernel_rfl) (by decide +kernel) (by decide +kernel) (fun _ _ _ h => h) (Or.inl ⟨by rfl, ?_⟩) (by assumption) ?_
      rotate_left 1
      · (intro w' hSw; go_simp; try with_reducible rfl)
      try simp only [Act.put, List.setIfInBounds_toArray, List.set_cons_zero, List.set_cons_succ]
      refine wpAnyH_take (i := 2) (oi := ⟨some 45, _, _, _, _, _⟩) (v := ?_) rfl (by kernel_rfl) (by decide +kernel) (by decide +kernel) (fun _ _ _ h => h) (Or.inl ⟨by rfl, ?_⟩) (by assumption) ?_
      rotate_left 1
      · (intro w' hSw; go_simp; try with_reducible rfl)
      try simp only [Act.put, List.setIfInBounds_toArray, List.set_cons_zero, List.set_cons_succ]
      refine wpAnyH_take (i := 3) (oi := ⟨some 46, _, _, _, _, _⟩) (v := ?_) rfl (by kernel_rfl) (by decide +kernel) (by decide +kernel) (fun _ _ _ h => h) (Or.inl ⟨by rfl, ?_⟩) (by assumption) ?_
      rotate_left 1
      · (intro w' hSw; go_simp; try with_reducible rfl)
      try simp only [Act.put, List.setIfInBounds_toArray, List.set_cons_zero, List.set_cons_succ]
      clear hHeld
      have HB0 := Lib.hid (Below.refl ws101.heap.size ws101).drew
      refine wpAnyH_ready (rs := [4, 10]) (by decide +kernel) (by simp) ?_
      refine AllReadyH.cons rfl (fun K hK => ?_) (AllReadyH.cons rfl (fun K hK => ?_) AllReadyH.nil)
      · go_simp
        go_at_call 22
        refine (HBK1.out _ HB0.out).mono ?_
        rintro e wt1 ⟨rfl, hA, hst⟩
        have HB1 := Lib.hid (HB0.out.trans (hst.mono HB0.out.size))
        have HK1 := Lib.hid hA
        clear hA hst
        go_wp2_with fail
        refine hK.out _ _ (HSV1.out _ HB1.out) (fun hHeld => ?_)
        clear hK K hHeld
        try simp only [Act.put, List.setIfInBounds_toArray, List.set_cons_zero, List.set_cons_succ]
        refine wpAnyH_ready (rs := [5, 10]) (by decide +kernel) (by simp) ?_
        refine AllReadyH.cons rfl (fun K hK => ?_) (AllReadyH.cons rfl (fun K hK => ?_) AllReadyH.nil)
        · go_simp
          go_at_call 14
          refine (HSE1.out _ _ HB1.out HK1.out).mono ?_
          intro e wt2 hso
          unfold SealOf at hso
          rw [HPR.out] at hso
          obtain ⟨gc2, hgc, rfl, hA, hst⟩ := hso
          have HB2 := Lib.hid (HB1.out.trans (hst.mono HB1.out.size))
          have HC2 := Lib.hid hA
          have HGC2 := Lib.hid (Nat.le_trans HB1.out.size hgc)
          clear hA hst hgc
          go_wp2_with fail
          refine hK.out _ _ (HSV1.out _ HB2.out) (fun hHeld => ?_)
          clear hK K
          try simp only [Act.put, List.setIfInBounds_toArray, List.set_cons_zero, List.set_cons_succ]
          refine wpAnyH_take (i := 6) (oi := ⟨some 42, _, _, _, _, _⟩) (v := ?_) rfl (by kernel_rfl) (by decide +kernel) (by decide +kernel) (fun _ _ _ h => h) (Or.inl ⟨by rfl, ?_⟩) (by assumption) ?_
          rotate_left 1
          · (intro w' hSw; go_simp; try with_reducible rfl)
          try simp only [Act.put, List.setIfInBounds_toArray, List.set_cons_zero, List.set_cons_succ]
          refine wpAnyH_take (i := 7) (oi := ⟨some 49, _, _, _, _, _⟩) (v := ?_) rfl (by kernel_rfl) (by decide +kernel) (by decide +kernel) (fun _ _ _ h => h) (Or.inl ⟨by rfl, ?_⟩) (by assumption) ?_
          rotate_left 1
          · (intro w' hSw; go_simp; try with_reducible rfl)
          try simp only [Act.put, List.setIfInBounds_toArray, List.set_cons_zero, List.set_cons_succ]
          refine wpAnyH_take (i := 8) (oi := ⟨some 50, _, _, _, _, _⟩) (v := ?_) rfl (by kernel_rfl) (by decide +kernel) (by decide +kernel) (fun _ _ _ h => h) (Or.inl ⟨by rfl, ?_⟩) (by assumption) ?_
          rotate_left 1
          · (intro w' hSw; go_simp; try with_reducible rfl)
          try simp only [Act.put, List.setIfInBounds_toArray, List.set_cons_zero, List.set_cons_succ]
          refine wpAnyH_take (i := 9) (oi := ⟨some 51, _, _, _, _, _⟩) (v := ?_) rfl (by kernel_rfl) (by decide +kernel) (by decide +kernel) (fun _ _ _ h => h) (Or.inl ⟨by rfl, ?_⟩) (by assumption) ?_
          rotate_left 1
          · (intro w' hSw; go_simp; try with_reducible rfl)
          try simp only [Act.put, List.setIfInBounds_toArray, List.set_cons_zero, List.set_cons_succ]
          clear hHeld
          refine wpAnyH_ready (rs := [10]) (by decide +kernel) (by simp) ?_
          refine AllReadyH.cons rfl (fun K hK => ?_) AllReadyH.nil
          go_simp
          have hal := HB2.out.alloc HB2.out.size (.cells PZ 41)
          have hxl := heap_alloc_new (wt2) (.cells PZ 41)
          have hst := (Below.refl (wt2).heap.size (wt2)).alloc (Nat.le_refl _) (.cells PZ 41)
          refine hK.out _ _ (HSV1.out _ hal) (fun hHeld => ?_)
          clear hK K hHeld
          try simp only [Act.put, List.setIfInBounds_toArray, List.set_cons_zero, List.set_cons_succ]
          refine (show ∀ wa3 : World, wa3 = (wt2).alloc (.cells PZ 41) → _ from ?_) _ rfl
          intro wa3 ew
          rw [← ew] at hal hxl hst
          have HC3 := Lib.hid ((hst.block _ (lt_of_block HC2.out)).trans HC2.out)
          have HA3 := Lib.hid (show wa3.heap[wt2.heap.size]? = _ from hxl)
          have HGA3 := Lib.hid (show ws101.heap.size ≤ wt2.heap.size from HB2.out.size)
          have HB3 := Lib.hid hal
          have HECA3 := Lib.hid (show gc2 ≠ wt2.heap.size from Nat.ne_of_lt (lt_of_block HC2.out))
          clear ew hal hxl hst
          have hHeld := HSV1.out _ HB3.out
          refine wpAnyH_take (i := 11) (oi := ⟨some 10, _, _, _, _, _⟩) (v := ?_) rfl (by kernel_rfl) (by decide +kernel) (by decide +kernel) (fun _ _ _ h => h) (Or.inl ⟨by rfl, ?_⟩) (by assumption) ?_
          rotate_left 1
          · (intro w' hSw; go_simp; try with_reducible rfl)
          try simp only [Act.put, List.setIfInBounds_toArray, List.set_cons_zero, List.set_cons_succ]
          clear hHeld
          refine wpAnyH_ready (rs := [12]) (by decide +kernel) (by simp) ?_
          refine AllReadyH.cons rfl (fun K hK => ?_) AllReadyH.nil
          rw [if_pos (by kernel_rfl)]
          refine wp_store_row (o := ⟨none, .store _ (.tmp 11) _, _, _, _, _⟩) 41 _ _ rfl (wt2.heap.size) PRA rfl rfl 41 PZ (show (wa3).heap[wt2.heap.size]? = _ from HA3.out) SPA.out EPA.out OPA.out ?_
          refine hK.out _ _ (HSV1.out _ (ybelow_row HB3.out HGA3.out PRA)) (fun hHeld => ?_)
          clear hK K hHeld
          simp only [Act.put]
          have hHeld := HSV1.out _ (ybelow_row HB3.out HGA3.out PRA)
          refine wpAnyH_take (i := 13) (oi := ⟨some 12, _, _, _, _, _⟩) (v := ?_) rfl (by kernel_rfl) (by decide +kernel) (by decide +kernel) (fun _ _ _ h => h) (Or.inl ⟨by rfl, ?_⟩) (by assumption) ?_
          rotate_left 1
          · (intro w' hSw; go_simp; try with_reducible rfl)
          try simp only [Act.put, List.setIfInBounds_toArray, List.set_cons_zero, List.set_cons_succ]
          clear hHeld
          refine wpAnyH_done (by decide +kernel) ?_ _
          refine NoPanic.normal ?_
          go_wp2_with fail
          go_meet
          exact ⟨gc2, wt2.heap.size, rfl, rfl, rfl, ⟨ybelow_row HB3.out HGA3.out PRA, (setRow_other _ _ _ _ HECA3.out).trans HC3.out, by rw [HPR.out]; exact setRow_heap _ _ _ _ _ _ HA3.out, HECA3.out, HGC2.out, HGA3.out⟩⟩
        · go_simp
          have hal := HB1.out.alloc HB1.out.size (.cells PZ 41)
          have hxl := heap_alloc_new (wt1) (.cells PZ 41)
          have hst := (Below.refl (wt1).heap.size (wt1)).alloc (Nat.le_refl _) (.cells PZ 41)
          refine hK.out _ _ (HSV1.out _ hal) (fun hHeld => ?_)
          clear hK K hHeld
          try simp only [Act.put, List.setIfInBounds_toArray, List.set_cons_zero, List.set_cons_succ]
          refine (show ∀ wa5 : World, wa5 = (wt1).alloc (.cells PZ 41) → _ from ?_) _ rfl
          intro wa5 ew
          rw [← ew] at hal hxl hst
          have HK5 := Lib.hid ((hst.block _ (lt_of_block HK1.out)).trans HK1.out)
          have HA5 := Lib.hid (show wa5.heap[wt1.heap.size]? = _ from hxl)
          have HGA5 := Lib.hid (show ws101.heap.size ≤ wt1.heap.size from HB1.out.size)
          have HB5 := Lib.hid hal
          have HEKA5 := Lib.hid (show ws101.heap.size ≠ wt1.heap.size from Nat.ne_of_lt (lt_of_block HK1.out))
          clear ew hal hxl hst
          refine wpAnyH_ready (rs := [5]) (by decide +kernel) (by simp) ?_
          refine AllReadyH.cons rfl (fun K hK => ?_) AllReadyH.nil
          go_simp
          go_at_call 14
          refine (HSE1.out _ _ HB5.out HK5.out).mono ?_
          intro e wt6 hso
          unfold SealOf at hso
          rw [HPR.out] at hso
          obtain ⟨gc6, hgc, rfl, hA, hst⟩ := hso
          have HEAC6 := Lib.hid (show gc6 ≠ wt1.heap.size from Ne.symm (Nat.ne_of_lt (Nat.lt_of_lt_of_le (lt_of_block HA5.out) hgc)))
          have HA6 := Lib.hid ((hst.block _ (lt_of_block HA5.out)).trans HA5.out)
          have HB6 := Lib.hid (HB5.out.trans (hst.mono HB5.out.size))
          have HC6 := Lib.hid hA
          have HGC6 := Lib.hid (Nat.le_trans HB5.out.size hgc)
          clear hA hst hgc
          go_wp2_with fail
          refine hK.out _ _ (HSV1.out _ HB6.out) (fun hHeld => ?_)
          clear hK K
          try simp only [Act.put, List.setIfInBounds_toArray, List.set_cons_zero, List.set_cons_succ]
          refine wpAnyH_take (i := 6) (oi := ⟨some 42, _, _, _, _, _⟩) (v := ?_) rfl (by kernel_rfl) (by decide +kernel) (by decide +kernel) (fun _ _ _ h => h) (Or.inl ⟨by rfl, ?_⟩) (by assumption) ?_
          rotate_left 1
          · (intro w' hSw; go_simp; try with_reducible rfl)
          try simp only [Act.put, List.setIfInBounds_toArray, List.set_cons_zero, List.set_cons_succ]
          refine wpAnyH_take (i := 7) (oi := ⟨some 49, _, _, _, _, _⟩) (v := ?_) rfl (by kernel_rfl) (by decide +kernel) (by decide +kernel) (fun _ _ _ h => h) (Or.inl ⟨by rfl, ?_⟩) (by assumption) ?_
          rotate_left 1
          · (intro w' hSw; go_simp; try with_reducible rfl)
          try simp only [Act.put, List.setIfInBounds_toArray, List.set_cons_zero, List.set_cons_succ]
          refine wpAnyH_take (i := 8) (oi := ⟨some 50, _, _, _, _, _⟩) (v := ?_) rfl (by kernel_rfl) (by decide +kernel) (by decide +kernel) (fun _ _ _ h => h) (Or.inl ⟨by rfl, ?_⟩) (by assumption) ?_
          rotate_left 1
          · (intro w' hSw; go_simp; try with_reducible rfl)
          try simp only [Act.put, List.setIfInBounds_toArray, List.set_cons_zero, List.set_cons_succ]
          refine wpAnyH_take (i := 9) (oi := ⟨some 51, _, _, _, _, _⟩) (v := ?_) rfl (by kernel_rfl) (by decide +kernel) (by decide +kernel) (fun _ _ _ h => h) (Or.inl ⟨by rfl, ?_⟩) (by assumption) ?_
          rotate_left 1
          · (intro w' hSw; go_simp; try with_reducible rfl)
          try simp only [Act.put, List.setIfInBounds_toArray, List.set_cons_zero, List.set_cons_succ]
          clear hHeld
          have hHeld := HSV1.out _ HB6.out
          refine wpAnyH_take (i := 11) (oi := ⟨some 10, _, _, _, _, _⟩) (v := ?_) rfl (by kernel_rfl) (by decide +kernel) (by decide +kernel) (fun _ _ _ h => h) (Or.inl ⟨by rfl, ?_⟩) (by assumption) ?_
          rotate_left 1
          · (intro w' hSw; go_simp; try with_reducible rfl)
          try simp only [Act.put, List.setIfInBounds_toArray, List.set_cons_zero, List.set_cons_succ]
          clear hHeld
          refine wpAnyH_ready (rs := [12]) (by decide +kernel) (by simp) ?_
          refine AllReadyH.cons rfl (fun K hK => ?_) AllReadyH.nil
          rw [if_pos (by kernel_rfl)]
          refine wp_store_row (o := ⟨none, .store _ (.tmp 11) _, _, _, _, _⟩) 41 _ _ rfl (wt1.heap.size) PRA rfl rfl 41 PZ (show (wt6).heap[wt1.heap.size]? = _ from HA6.out) SPA.out EPA.out OPA.out ?_
          refine hK.out _ _ (HSV1.out _ (ybelow_row HB6.out HGA5.out PRA)) (fun hHeld => ?_)
          clear hK K hHeld
          simp only [Act.put]
          have hHeld := HSV1.out _ (ybelow_row HB6.out HGA5.out PRA)
          refine wpAnyH_take (i := 13) (oi := ⟨some 12, _, _, _, _, _⟩) (v := ?_) rfl (by kernel_rfl) (by decide +kernel) (by decide +kernel) (fun _ _ _ h => h) (Or.inl ⟨by rfl, ?_⟩) (by assumption) ?_
          rotate_left 1
          · (intro w' hSw; go_simp; try with_reducible rfl)
          try simp only [Act.put, List.setIfInBounds_toArray, List.set_cons_zero, List.set_cons_succ]
          clear hHeld
          refine wpAnyH_done (by decide +kernel) ?_ _
          refine NoPanic.normal ?_
          go_wp2_with fail
          go_meet
          exact ⟨gc6, wt1.heap.size, rfl, rfl, rfl, ⟨ybelow_row HB6.out HGA5.out PRA, (setRow_other _ _ _ _ HEAC6.out).trans HC6.out, by rw [HPR.out]; exact setRow_heap _ _ _ _ _ _ HA6.out, HEAC6.out, HGC6.out, HGA5.out⟩⟩
      · go_simp
        have hal := HB0.out.alloc HB0.out.size (.cells PZ 41)
        have hxl := heap_alloc_new (ws101.drew) (.cells PZ 41)
        have hst := (Below.refl (ws101.drew).heap.size (ws101.drew)).alloc (Nat.le_refl _) (.cells PZ 41)
        refine hK.out _ _ (HSV1.out _ hal) (fun hHeld => ?_)
        clear hK K hHeld
        try simp only [Act.put, List.setIfInBounds_toArray, List.set_cons_zero, List.set_cons_succ]
        refine (show ∀ wa8 : World, wa8 = (ws101.drew).alloc (.cells PZ 41) → _ from ?_) _ rfl
        intro wa8 ew
        rw [← ew] at hal hxl hst
        have HA8 := Lib.hid (show wa8.heap[ws101.heap.size]? = _ from hxl)
        have HGA8 := Lib.hid (show ws101.heap.size ≤ ws101.heap.size from HB0.out.size)
        have HB8 := Lib.hid hal
        clear ew hal hxl hst
        refine wpAnyH_ready (rs := [4]) (by decide +kernel) (by simp) ?_
        refine AllReadyH.cons rfl (fun K hK => ?_) AllReadyH.nil
        go_simp
        go_at_call 22
        refine (HBK1.out _ HB8.out).mono ?_
        rintro e wt9 ⟨rfl, hA, hst⟩
        have HA9 := Lib.hid ((hst.block _ (lt_of_block HA8.out)).trans HA8.out)
        have HB9 := Lib.hid (HB8.out.trans (hst.mono HB8.out.size))
        have HK9 := Lib.hid hA
        clear hA hst
        go_wp2_with fail
        refine hK.out _ _ (HSV1.out _ HB9.out) (fun hHeld => ?_)
        clear hK K hHeld
        try simp only [Act.put, List.setIfInBounds_toArray, List.set_cons_zero, List.set_cons_succ]
        refine wpAnyH_ready (rs := [5]) (by decide +kernel) (by simp) ?_
        refine AllReadyH.cons rfl (fun K hK => ?_) AllReadyH.nil
        go_simp
        go_at_call 14
        refine (HSE1.out _ _ HB9.out HK9.out).mono ?_
        intro e wt10 hso
        unfold SealOf at hso
        rw [HPR.out] at hso
        obtain ⟨gc10, hgc, rfl, hA, hst⟩ := hso
        have HEAC10 := Lib.hid (show gc10 ≠ ws101.heap.size from Ne.symm (Nat.ne_of_lt (Nat.lt_of_lt_of_le (lt_of_block HA9.out) hgc)))
        have HA10 := Lib.hid ((hst.block _ (lt_of_block HA9.out)).trans HA9.out)
        have HB10 := Lib.hid (HB9.out.trans (hst.mono HB9.out.size))
        have HC10 := Lib.hid hA
        have HGC10 := Lib.hid (Nat.le_trans HB9.out.size hgc)
        clear hA hst hgc
        go_wp2_with fail
        refine hK.out _ _ (HSV1.out _ HB10.out) (fun hHeld => ?_)
        clear hK K
        try simp only [Act.put, List.setIfInBounds_toArray, List.set_cons_zero, List.set_cons_succ]
        refine wpAnyH_take (i := 6) (oi := ⟨some 42, _, _, _, _, _⟩) (v := ?_) rfl (by kernel_rfl) (by decide +kernel) (by decide +kernel) (fun _ _ _ h => h) (Or.inl ⟨by rfl, ?_⟩) (by assumption) ?_
        rotate_left 1
        · (intro w' hSw; go_simp; try with_reducible rfl)
        try simp only [Act.put, List.setIfInBounds_toArray, List.set_cons_zero, List.set_cons_succ]
        refine wpAnyH_take (i := 7) (oi := ⟨some 49, _, _, _, _, _⟩) (v := ?_) rfl (by kernel_rfl) (by decide +kernel) (by decide +kernel) (fun _ _ _ h => h) (Or.inl ⟨by rfl, ?_⟩) (by assumption) ?_
        rotate_left 1
        · (intro w' hSw; go_simp; try with_reducible rfl)
        try simp only [Act.put, List.setIfInBounds_toArray, List.set_cons_zero, List.set_cons_succ]
        refine wpAnyH_take (i := 8) (oi := ⟨some 50, _, _, _, _, _⟩) (v := ?_) rfl (by kernel_rfl) (by decide +kernel) (by decide +kernel) (fun _ _ _ h => h) (Or.inl ⟨by rfl, ?_⟩) (by assumption) ?_
        rotate_left 1
        · (intro w' hSw; go_simp; try with_reducible rfl)
        try simp only [Act.put, List.setIfInBounds_toArray, List.set_cons_zero, List.set_cons_succ]
        refine wpAnyH_take (i := 9) (oi := ⟨some 51, _, _, _, _, _⟩) (v := ?_) rfl (by kernel_rfl) (by decide +kernel) (by decide +kernel) (fun _ _ _ h => h) (Or.inl ⟨by rfl, ?_⟩) (by assumption) ?_
        rotate_left 1
        · (intro w' hSw; go_simp; try with_reducible rfl)
        try simp only [Act.put, List.setIfInBounds_toArray, List.set_cons_zero, List.set_cons_succ]
        clear hHeld
        have hHeld := HSV1.out _ HB10.out
        refine wpAnyH_take (i := 11) (oi := ⟨some 10, _, _, _, _, _⟩) (v := ?_) rfl (by kernel_rfl) (by decide +kernel) (by decide +kernel) (fun _ _ _ h => h) (Or.inl ⟨by rfl, ?_⟩) (by assumption) ?_
        rotate_left 1
        · (intro w' hSw; go_simp; try with_reducible rfl)
        try simp only [Act.put, List.setIfInBounds_toArray, List.set_cons_zero, List.set_cons_succ]
        clear hHeld
        refine wpAnyH_ready (rs := [12]) (by decide +kernel) (by simp) ?_
        refine AllReadyH.cons rfl (fun K hK => ?_) AllReadyH.nil
        rw [if_pos (by kernel_rfl)]
        refine wp_store_row (o := ⟨none, .store _ (.tmp 11) _, _, _, _, _⟩) 41 _ _ rfl (ws101.heap.size) PRA rfl rfl 41 PZ (show (wt10).heap[ws101.heap.size]? = _ from HA10.out) SPA.out EPA.out OPA.out ?_
        refine hK.out _ _ (HSV1.out _ (ybelow_row HB10.out HGA8.out PRA)) (fun hHeld => ?_)
        clear hK K hHeld
        simp only [Act.put]
        have hHeld := HSV1.out _ (ybelow_row HB10.out HGA8.out PRA)
        refine wpAnyH_take (i := 13) (oi := ⟨some 12, _, _, _, _, _⟩) (v := ?_) rfl (by kernel_rfl) (by decide +kernel) (by decide +kernel) (fun _ _ _ h => h) (Or.inl ⟨by rfl, ?_⟩) (by assumption) ?_
        rotate_left 1
        · (intro w' hSw; go_simp; try with_reducible rfl)
        try simp only [Act.put, List.setIfInBounds_toArray, List.set_cons_zero, List.set_cons_succ]
        clear hHeld
        refine wpAnyH_done (by decide +kernel) ?_ _
        refine NoPanic.normal ?_
        go_wp2_with fail
        go_meet
        exact ⟨gc10, ws101.heap.size, rfl, rfl, rfl, ⟨ybelow_row HB10.out HGA8.out PRA, (setRow_other _ _ _ _ HEAC10.out).trans HC10.out, by rw [HPR.out]; exact setRow_heap _ _ _ _ _ _ HA10.out, HEAC10.out, HGC10.out, HGA8.out⟩⟩
    case rest =>
      obtain ⟨c1, q1, rfl, rfl, rfl, hsd⟩ := hcut
      obtain ⟨wc1, hwc⟩ : ∃ z : World, z = wc := ⟨_, rfl⟩
      subst hwc
      have HSD := Lib.hid hsd
      clear hsd HSV1 HBK1 HSE1 HPR
      have RC1 := Lib.hid (show wc1.heap[c1]? = some (.cells (yvs SA) 5 (0, 0)) from HSD.out.cy)
      have RQ1 := Lib.hid (show wc1.heap[q1]? = some (.cells PRA 41 (0, 0)) by rw [← HPRA.out]; exact HSD.out.qy)
      have RX103 := Lib.hid ((HSD.out.bel.block _ (lt_of_block RX102.out)).trans RX102.out)
      have RK103 := Lib.hid ((HSD.out.bel.block _ (lt_of_block RNK.out)).trans RNK.out)
      have HB103 := Lib.hid (HB102.out.trans (HSD.out.bel.mono HB102.out.size))
      clear RX102 RNK HB102 HSD
      go_upto_region 9 with fail
      have HSV2 := Lib.hid (show ∀ W, Below wc1.heap.size wc1 W → W.rangeAt BK 0 KM.toList from fun W hW => range_of_row (by rw [Array.toArray_toList]; exact (hW.block _ (lt_of_block RK103.out)).trans RK103.out))
      have HBK2 := Lib.hid (fun (W : World) (hW : Below wc1.heap.size wc1 W) => (fun _ => HBLN.out W) (HB103.out.trans (hW.mono HB103.out.size)))
      have HSE2 := Lib.hid (fun (W : World) (g : Nat) (hW : Below wc1.heap.size wc1 W) => HSEB.out W g (HB103.out.trans (hW.mono HB103.out.size)))
      have HPR := HPRB
      go_cut [13, 14, 15] from 16 (fun va vb vc wc => ∃ c q, va = .slice (some ⟨c, 0, none⟩) 512 512 ∧ vb = .pointer (some ⟨q, 0, none⟩) ∧ vc = .int .i64 0 ∧ SD wc1 wc c q SB PTB)
      case first =>
        try simp only [Act.put]
        refine wp_region_noPanic ?_
        refine wp_region_held_drew (S := fun W => W.rangeAt BK 0 KM.toList) (by kernel_rfl) (HSV2.out _ (Below.refl _ wc1).drew) (fun hHeld => ?_)
        refine wpAnyH_take (i := 0) (oi := ⟨some 53, _, _, _, _, _⟩) rfl (by kernel_rfl) (by decide +kernel) (by decide +kernel) (fun _ _ _ h => h) (yieldsIf_load_mid (by rfl) _ _ rfl (BK) (0) rfl KM.toList _ (fun w' h => h) Tryd.underlying28 rfl IK.out) (by assumption) ?_
        try simp only [Act.put, List.setIfInBounds_toArray, List.set_cons_zero, List.set_cons_succ, Array.toArray_toList]
        refine wpAnyH_take (i := 1) (oi := ⟨some 54, _, _, _, _, _⟩) (v := ?_) rfl (by kernel_rfl) (by decide +kernel) (by decide +kernel) (fun _ _ _ h => h) (Or.inl ⟨by rfl, ?_⟩) (by assumption) ?_
        rotate_left 1
        · (intro w' hSw; go_simp; try with_reducible rfl)
        try simp only [Act.put, List.setIfInBounds_toArray, List.set_cons_zero, List.set_cons_succ]
        refine wpAnyH_take (i := 2) (oi := ⟨some 55, _, _, _, _, _⟩) (v := ?_) rfl (by kernel_rfl) (by decide +kernel) (by decide +kernel) (fun _ _ _ h => h) (Or.inl ⟨by rfl, ?_⟩) (by assumption) ?_
        rotate_left 1
        · (intro w' hSw; go_simp; try with_reducible rfl)
        try simp only [Act.put, List.setIfInBounds_toArray, List.set_cons_zero, List.set_cons_succ]
        clear hHeld
        have HB0 := Lib.hid (Below.refl wc1.heap.size wc1).drew
        refine wpAnyH_ready (rs := [3, 9]) (by decide +kernel) (by simp) ?_
        refine AllReadyH.cons rfl (fun K hK => ?_) (AllReadyH.cons rfl (fun K hK => ?_) AllReadyH.nil)
        · go_simp
          go_at_call 22
          refine (HBK2.out _ HB0.out).mono ?_
          rintro e wt1 ⟨rfl, hA, hst⟩
          have HB1 := Lib.hid (HB0.out.trans (hst.mono HB0.out.size))
          have HK1 := Lib.hid hA
          clear hA hst
          go_wp2_with fail
          refine hK.out _ _ (HSV2.out _ HB1.out) (fun hHeld => ?_)
          clear hK K hHeld
          try simp only [Act.put, List.setIfInBounds_toArray, List.set_cons_zero, List.set_cons_succ]
          refine wpAnyH_ready (rs := [4, 9]) (by decide +kernel) (by simp) ?_
          refine AllReadyH.cons rfl (fun K hK => ?_) (AllReadyH.cons rfl (fun K hK => ?_) AllReadyH.nil)
          · go_simp
            go_at_call 14
            refine (HSE2.out _ _ HB1.out HK1.out).mono ?_
            intro e wt2 hso
            unfold SealOf at hso
            rw [HPR.out] at hso
            obtain ⟨gc2, hgc, rfl, hA, hst⟩ := hso
            have HB2 := Lib.hid (HB1.out.trans (hst.mono HB1.out.size))
            have HC2 := Lib.hid hA
            have HGC2 := Lib.hid (Nat.le_trans HB1.out.size hgc)
            clear hA hst hgc
            go_wp2_with fail
            refine hK.out _ _ (HSV2.out _ HB2.out) (fun hHeld => ?_)
            clear hK K
            try simp only [Act.put, List.setIfInBounds_toArray, List.set_cons_zero, List.set_cons_succ]
            refine wpAnyH_take (i := 5) (oi := ⟨some 52, _, _, _, _, _⟩) (v := ?_) rfl (by kernel_rfl) (by decide +kernel) (by decide +kernel) (fun _ _ _ h => h) (Or.inl ⟨by rfl, ?_⟩) (by assumption) ?_
            rotate_left 1
            · (intro w' hSw; go_simp; try with_reducible rfl)
            try simp only [Act.put, List.setIfInBounds_toArray, List.set_cons_zero, List.set_cons_succ]
            refine wpAnyH_take (i := 6) (oi := ⟨some 58, _, _, _, _, _⟩) (v := ?_) rfl (by kernel_rfl) (by decide +kernel) (by decide +kernel) (fun _ _ _ h => h) (Or.inl ⟨by rfl, ?_⟩) (by assumption) ?_
            rotate_left 1
            · (intro w' hSw; go_simp; try with_reducible rfl)
            try simp only [Act.put, List.setIfInBounds_toArray, List.set_cons_zero, List.set_cons_succ]
            refine wpAnyH_take (i := 7) (oi := ⟨some 59, _, _, _, _, _⟩) (v := ?_) rfl (by kernel_rfl) (by decide +kernel) (by decide +kernel) (fun _ _ _ h => h) (Or.inl ⟨by rfl, ?_⟩) (by assumption) ?_
            rotate_left 1
            · (intro w' hSw; go_simp; try with_reducible rfl)
            try simp only [Act.put, List.setIfInBounds_toArray, List.set_cons_zero, List.set_cons_succ]
            refine wpAnyH_take (i := 8) (oi := ⟨some 60, _, _, _, _, _⟩) (v := ?_) rfl (by kernel_rfl) (by decide +kernel) (by decide +kernel) (fun _ _ _ h => h) (Or.inl ⟨by rfl, ?_⟩) (by assumption) ?_
            rotate_left 1
            · (intro w' hSw; go_simp; try with_reducible rfl)
            try simp only [Act.put, List.setIfInBounds_toArray, List.set_cons_zero, List.set_cons_succ]
            clear hHeld
            refine wpAnyH_ready (rs := [9]) (by decide +kernel) (by simp) ?_
            refine AllReadyH.cons rfl (fun K hK => ?_) AllReadyH.nil
            go_simp
            have hal := HB2.out.alloc HB2.out.size (.cells PZ 41)
            have hxl := heap_alloc_new (wt2) (.cells PZ 41)
            have hst := (Below.refl (wt2).heap.size (wt2)).alloc (Nat.le_refl _) (.cells PZ 41)
            refine hK.out _ _ (HSV2.out _ hal) (fun hHeld => ?_)
            clear hK K hHeld
            try simp only [Act.put, List.setIfInBounds_toArray, List.set_cons_zero, List.set_cons_succ]
            refine (show ∀ wa3 : World, wa3 = (wt2).alloc (.cells PZ 41) → _ from ?_) _ rfl
            intro wa3 ew
            rw [← ew] at hal hxl hst
            have HC3 := Lib.hid ((hst.block _ (lt_of_block HC2.out)).trans HC2.out)
            have HA3 := Lib.hid (show wa3.heap[wt2.heap.size]? = _ from hxl)
            have HGA3 := Lib.hid (show wc1.heap.size ≤ wt2.heap.size from HB2.out.size)
            have HB3 := Lib.hid hal
            have HECA3 := Lib.hid (show gc2 ≠ wt2.heap.size from Nat.ne_of_lt (lt_of_block HC2.out))
            clear ew hal hxl hst
            have hHeld := HSV2.out _ HB3.out
            refine wpAnyH_take (i := 10) (oi := ⟨some 13, _, _, _, _, _⟩) (v := ?_) rfl (by kernel_rfl) (by decide +kernel) (by decide +kernel) (fun _ _ _ h => h) (Or.inl ⟨by rfl, ?_⟩) (by assumption) ?_
            rotate_left 1
            · (intro w' hSw; go_simp; try with_reducible rfl)
            try simp only [Act.put, List.setIfInBounds_toArray, List.set_cons_zero, List.set_cons_succ]
            clear hHeld
            refine wpAnyH_ready (rs := [11]) (by decide +kernel) (by simp) ?_
            refine AllReadyH.cons rfl (fun K hK => ?_) AllReadyH.nil
            rw [if_pos (by kernel_rfl)]
            refine wp_store_row (o := ⟨none, .store _ (.tmp 14) _, _, _, _, _⟩) 41 _ _ rfl (wt2.heap.size) PRB rfl rfl 41 PZ (show (wa3).heap[wt2.heap.size]? = _ from HA3.out) SPB.out EPB.out OPB.out ?_
            refine hK.out _ _ (HSV2.out _ (ybelow_row HB3.out HGA3.out PRB)) (fun hHeld => ?_)
            clear hK K hHeld
            simp only [Act.put]
            have hHeld := HSV2.out _ (ybelow_row HB3.out HGA3.out PRB)
            refine wpAnyH_take (i := 12) (oi := ⟨some 15, _, _, _, _, _⟩) (v := ?_) rfl (by kernel_rfl) (by decide +kernel) (by decide +kernel) (fun _ _ _ h => h) (Or.inl ⟨by rfl, ?_⟩) (by assumption) ?_
            rotate_left 1
            · (intro w' hSw; go_simp; try with_reducible rfl)
            try simp only [Act.put, List.setIfInBounds_toArray, List.set_cons_zero, List.set_cons_succ]
            clear hHeld
            refine wpAnyH_done (by decide +kernel) ?_ _
            refine NoPanic.normal ?_
            go_wp2_with fail
            go_meet
            exact ⟨gc2, wt2.heap.size, rfl, rfl, rfl, ⟨ybelow_row HB3.out HGA3.out PRB, (setRow_other _ _ _ _ HECA3.out).trans HC3.out, by rw [HPR.out]; exact setRow_heap _ _ _ _ _ _ HA3.out, HECA3.out, HGC2.out, HGA3.out⟩⟩
          · go_simp
            have hal := HB1.out.alloc HB1.out.size (.cells PZ 41)
            have hxl := heap_alloc_new (wt1) (.cells PZ 41)
            have hst := (Below.refl (wt1).heap.size (wt1)).alloc (Nat.le_refl _) (.cells PZ 41)
            refine hK.out _ _ (HSV2.out _ hal) (fun hHeld => ?_)
            clear hK K hHeld
            try simp only [Act.put, List.setIfInBounds_toArray, List.set_cons_zero, List.set_cons_succ]
            refine (show ∀ wa5 : World, wa5 = (wt1).alloc (.cells PZ 41) → _ from ?_) _ rfl
            intro wa5 ew
            rw [← ew] at hal hxl hst
            have HK5 := Lib.hid ((hst.block _ (lt_of_block HK1.out)).trans HK1.out)
            have HA5 := Lib.hid (show wa5.heap[wt1.heap.size]? = _ from hxl)
            have HGA5 := Lib.hid (show wc1.heap.size ≤ wt1.heap.size from HB1.out.size)
            have HB5 := Lib.hid hal
            have HEKA5 := Lib.hid (show wc1.heap.size ≠ wt1.heap.size from Nat.ne_of_lt (lt_of_block HK1.out))
            clear ew hal hxl hst
            refine wpAnyH_ready (rs := [4]) (by decide +kernel) (by simp) ?_
            refine AllReadyH.cons rfl (fun K hK => ?_) AllReadyH.nil
            go_simp
            go_at_call 14
            refine (HSE2.out _ _ HB5.out HK5.out).mono ?_
            intro e wt6 hso
            unfold SealOf at hso
            rw [HPR.out] at hso
            obtain ⟨gc6, hgc, rfl, hA, hst⟩ := hso
            have HEAC6 := Lib.hid (show gc6 ≠ wt1.heap.size from Ne.symm (Nat.ne_of_lt (Nat.lt_of_lt_of_le (lt_of_block HA5.out) hgc)))
            have HA6 := Lib.hid ((hst.block _ (lt_of_block HA5.out)).trans HA5.out)
            have HB6 := Lib.hid (HB5.out.trans (hst.mono HB5.out.size))
            have HC6 := Lib.hid hA
            have HGC6 := Lib.hid (Nat.le_trans HB5.out.size hgc)
            clear hA hst hgc
            go_wp2_with fail
            refine hK.out _ _ (HSV2.out _ HB6.out) (fun hHeld => ?_)
            clear hK K
            try simp only [Act.put, List.setIfInBounds_toArray, List.set_cons_zero, List.set_cons_succ]
            refine wpAnyH_take (i := 5) (oi := ⟨some 52, _, _, _, _, _⟩) (v := ?_) rfl (by kernel_rfl) (by decide +kernel) (by decide +kernel) (fun _ _ _ h => h) (Or.inl ⟨by rfl, ?_⟩) (by assumption) ?_
            rotate_left 1
            · (intro w' hSw; go_simp; try with_reducible rfl)
            try simp only [Act.put, List.setIfInBounds_toArray, List.set_cons_zero, List.set_cons_succ]
            refine wpAnyH_take (i := 6) (oi := ⟨some 58, _, _, _, _, _⟩) (v := ?_) rfl (by kernel_rfl) (by decide +kernel) (by decide +kernel) (fun _ _ _ h => h) (Or.inl ⟨by rfl, ?_⟩) (by assumption) ?_
            rotate_left 1
            · (intro w' hSw; go_simp; try with_reducible rfl)
            try simp only [Act.put, List.setIfInBounds_toArray, List.set_cons_zero, List.set_cons_succ]
            refine wpAnyH_take (i := 7) (oi := ⟨some 59, _, _, _, _, _⟩) (v := ?_) rfl (by kernel_rfl) (by decide +kernel) (by decide +kernel) (fun _ _ _ h => h) (Or.inl ⟨by rfl, ?_⟩) (by assumption) ?_
            rotate_left 1
            · (intro w' hSw; go_simp; try with_reducible rfl)
            try simp only [Act.put, List.setIfInBounds_toArray, List.set_cons_zero, List.set_cons_succ]
            refine wpAnyH_take (i := 8) (oi := ⟨some 60, _, _, _, _, _⟩) (v := ?_) rfl (by kernel_rfl) (by decide +kernel) (by decide +kernel) (fun _ _ _ h => h) (Or.inl ⟨by rfl, ?_⟩) (by assumption) ?_
            rotate_left 1
            · (intro w' hSw; go_simp; try with_reducible rfl)
            try simp only [Act.put, List.setIfInBounds_toArray, List.set_cons_zero, List.set_cons_succ]
            clear hHeld
            have hHeld := HSV2.out _ HB6.out
            refine wpAnyH_take (i := 10) (oi := ⟨some 13, _, _, _, _, _⟩) (v := ?_) rfl (by kernel_rfl) (by decide +kernel) (by decide +kernel) (fun _ _ _ h => h) (Or.inl ⟨by rfl, ?_⟩) (by assumption) ?_
            rotate_left 1
            · (intro w' hSw; go_simp; try with_reducible rfl)
            try simp only [Act.put, List.setIfInBounds_toArray, List.set_cons_zero, List.set_cons_succ]
            clear hHeld
            refine wpAnyH_ready (rs := [11]) (by decide +kernel) (by simp) ?_
            refine AllReadyH.cons rfl (fun K hK => ?_) AllReadyH.nil
            rw [if_pos (by kernel_rfl)]
            refine wp_store_row (o := ⟨none, .store _ (.tmp 14) _, _, _, _, _⟩) 41 _ _ rfl (wt1.heap.size) PRB rfl rfl 41 PZ (show (wt6).heap[wt1.heap.size]? = _ from HA6.out) SPB.out EPB.out OPB.out ?_
            refine hK.out _ _ (HSV2.out _ (ybelow_row HB6.out HGA5.out PRB)) (fun hHeld => ?_)
            clear hK K hHeld
            simp only [Act.put]
            have hHeld := HSV2.out _ (ybelow_row HB6.out HGA5.out PRB)
            refine wpAnyH_take (i := 12) (oi := ⟨some 15, _, _, _, _, _⟩) (v := ?_) rfl (by kernel_rfl) (by decide +kernel) (by decide +kernel) (fun _ _ _ h => h) (Or.inl ⟨by rfl, ?_⟩) (by assumption) ?_
            rotate_left 1
            · (intro w' hSw; go_simp; try with_reducible rfl)
            try simp only [Act.put, List.setIfInBounds_toArray, List.set_cons_zero, List.set_cons_succ]
            clear hHeld
            refine wpAnyH_done (by decide +kernel) ?_ _
            refine NoPanic.normal ?_
            go_wp2_with fail
            go_meet
            exact ⟨gc6, wt1.heap.size, rfl, rfl, rfl, ⟨ybelow_row HB6.out HGA5.out PRB, (setRow_other _ _ _ _ HEAC6.out).trans HC6.out, by rw [HPR.out]; exact setRow_heap _ _ _ _ _ _ HA6.out, HEAC6.out, HGC6.out, HGA5.out⟩⟩
        · go_simp
          have hal := HB0.out.alloc HB0.out.size (.cells PZ 41)
          have hxl := heap_alloc_new (wc1.drew) (.cells PZ 41)
          have hst := (Below.refl (wc1.drew).heap.size (wc1.drew)).alloc (Nat.le_refl _) (.cells PZ 41)
          refine hK.out _ _ (HSV2.out _ hal) (fun hHeld => ?_)
          clear hK K hHeld
          try simp only [Act.put, List.setIfInBounds_toArray, List.set_cons_zero, List.set_cons_succ]
          refine (show ∀ wa8 : World, wa8 = (wc1.drew).alloc (.cells PZ 41) → _ from ?_) _ rfl
          intro wa8 ew
          rw [← ew] at hal hxl hst
          have HA8 := Lib.hid (show wa8.heap[wc1.heap.size]? = _ from hxl)
          have HGA8 := Lib.hid (show wc1.heap.size ≤ wc1.heap.size from HB0.out.size)
          have HB8 := Lib.hid hal
          clear ew hal hxl hst
          refine wpAnyH_ready (rs := [3]) (by decide +kernel) (by simp) ?_
          refine AllReadyH.cons rfl (fun K hK => ?_) AllReadyH.nil
          go_simp
          go_at_call 22
          refine (HBK2.out _ HB8.out).mono ?_
          rintro e wt9 ⟨rfl, hA, hst⟩
          have HA9 := Lib.hid ((hst.block _ (lt_of_block HA8.out)).trans HA8.out)
          have HB9 := Lib.hid (HB8.out.trans (hst.mono HB8.out.size))
          have HK9 := Lib.hid hA
          clear hA hst
          go_wp2_with fail
          refine hK.out _ _ (HSV2.out _ HB9.out) (fun hHeld => ?_)
          clear hK K hHeld
          try simp only [Act.put, List.setIfInBounds_toArray, List.set_cons_zero, List.set_cons_succ]
          refine wpAnyH_ready (rs := [4]) (by decide +kernel) (by simp) ?_
          refine AllReadyH.cons rfl (fun K hK => ?_) AllReadyH.nil
          go_simp
          go_at_call 14
          refine (HSE2.out _ _ HB9.out HK9.out).mono ?_
          intro e wt10 hso
          unfold SealOf at hso
          rw [HPR.out] at hso
          obtain ⟨gc10, hgc, rfl, hA, hst⟩ := hso
          have HEAC10 := Lib.hid (show gc10 ≠ wc1.heap.size from Ne.symm (Nat.ne_of_lt (Nat.lt_of_lt_of_le (lt_of_block HA9.out) hgc)))
          have HA10 := Lib.hid ((hst.block _ (lt_of_block HA9.out)).trans HA9.out)
          have HB10 := Lib.hid (HB9.out.trans (hst.mono HB9.out.size))
          have HC10 := Lib.hid hA
          have HGC10 := Lib.hid (Nat.le_trans HB9.out.size hgc)
          clear hA hst hgc
          go_wp2_with fail
          refine hK.out _ _ (HSV2.out _ HB10.out) (fun hHeld => ?_)
          clear hK K
          try simp only [Act.put, List.setIfInBounds_toArray, List.set_cons_zero, List.set_cons_succ]
          refine wpAnyH_take (i := 5) (oi := ⟨some 52, _, _, _, _, _⟩) (v := ?_) rfl (by kernel_rfl) (by decide +kernel) (by decide +kernel) (fun _ _ _ h => h) (Or.inl ⟨by rfl, ?_⟩) (by assumption) ?_
          rotate_left 1
          · (intro w' hSw; go_simp; try with_reducible rfl)
          try simp only [Act.put, List.setIfInBounds_toArray, List.set_cons_zero, List.set_cons_succ]
          refine wpAnyH_take (i := 6) (oi := ⟨some 58, _, _, _, _, _⟩) (v := ?_) rfl (by kernel_rfl) (by decide +kernel) (by decide +kernel) (fun _ _ _ h => h) (Or.inl ⟨by rfl, ?_⟩) (by assumption) ?_
          rotate_left 1
          · (intro w' hSw; go_simp; try with_reducible rfl)
          try simp only [Act.put, List.setIfInBounds_toArray, List.set_cons_zero, List.set_cons_succ]
          refine wpAnyH_take (i := 7) (oi := ⟨some 59, _, _, _, _, _⟩) (v := ?_) rfl (by kernel_rfl) (by decide +kernel) (by decide +kernel) (fun _ _ _ h => h) (Or.inl ⟨by rfl, ?_⟩) (by assumption) ?_
          rotate_left 1
          · (intro w' hSw; go_simp; try with_reducible rfl)
          try simp only [Act.put, List.setIfInBounds_toArray, List.set_cons_zero, List.set_cons_succ]
          refine wpAnyH_take (i := 8) (oi := ⟨some 60, _, _, _, _, _⟩) (v := ?_) rfl (by kernel_rfl) (by decide +kernel) (by decide +kernel) (fun _ _ _ h => h) (Or.inl ⟨by rfl, ?_⟩) (by assumption) ?_
          rotate_left 1
          · (intro w' hSw; go_simp; try with_reducible rfl)
          try simp only [Act.put, List.setIfInBounds_toArray, List.set_cons_zero, List.set_cons_succ]
          clear hHeld
          have hHeld := HSV2.out _ HB10.out
          refine wpAnyH_take (i := 10) (oi := ⟨some 13, _, _, _, _, _⟩) (v := ?_) rfl (by kernel_rfl) (by decide +kernel) (by decide +kernel) (fun _ _ _ h => h) (Or.inl ⟨by rfl, ?_⟩) (by assumption) ?_
          rotate_left 1
          · (intro w' hSw; go_simp; try with_reducible rfl)
          try simp only [Act.put, List.setIfInBounds_toArray, List.set_cons_zero, List.set_cons_succ]
          clear hHeld
          refine wpAnyH_ready (rs := [11]) (by decide +kernel) (by simp) ?_
          refine AllReadyH.cons rfl (fun K hK => ?_) AllReadyH.nil
          rw [if_pos (by kernel_rfl)]
          refine wp_store_row (o := ⟨none, .store _ (.tmp 14) _, _, _, _, _⟩) 41 _ _ rfl (wc1.heap.size) PRB rfl rfl 41 PZ (show (wt10).heap[wc1.heap.size]? = _ from HA10.out) SPB.out EPB.out OPB.out ?_
          refine hK.out _ _ (HSV2.out _ (ybelow_row HB10.out HGA8.out PRB)) (fun hHeld => ?_)
          clear hK K hHeld
          simp only [Act.put]
          have hHeld := HSV2.out _ (ybelow_row HB10.out HGA8.out PRB)
          refine wpAnyH_take (i := 12) (oi := ⟨some 15, _, _, _, _, _⟩) (v := ?_) rfl (by kernel_rfl) (by decide +kernel) (by decide +kernel) (fun _ _ _ h => h) (Or.inl ⟨by rfl, ?_⟩) (by assumption) ?_
          rotate_left 1
          · (intro w' hSw; go_simp; try with_reducible rfl)
          try simp only [Act.put, List.setIfInBounds_toArray, List.set_cons_zero, List.set_cons_succ]
          clear hHeld
          refine wpAnyH_done (by decide +kernel) ?_ _
          refine NoPanic.normal ?_
          go_wp2_with fail
          go_meet
          exact ⟨gc10, wc1.heap.size, rfl, rfl, rfl, ⟨ybelow_row HB10.out HGA8.out PRB, (setRow_other _ _ _ _ HEAC10.out).trans HC10.out, by rw [HPR.out]; exact setRow_heap _ _ _ _ _ _ HA10.out, HEAC10.out, HGC10.out, HGA8.out⟩⟩
      case rest =>
        obtain ⟨c2, q2, rfl, rfl, rfl, hsd⟩ := hcut
        obtain ⟨wc2, hwc⟩ : ∃ z : World, z = wc := ⟨_, rfl⟩
        subst hwc
        have HSD := Lib.hid hsd
        clear hsd HSV2 HBK2 HSE2 HPR
        have RC2 := Lib.hid (show wc2.heap[c2]? = some (.cells (yvs SB) 5 (0, 0)) from HSD.out.cy)
        have RQ2 := Lib.hid (show wc2.heap[q2]? = some (.cells PRB 41 (0, 0)) by rw [← HPRB.out]; exact HSD.out.qy)
        have RX104 := Lib.hid ((HSD.out.bel.block _ (lt_of_block RX103.out)).trans RX103.out)
        have RK104 := Lib.hid ((HSD.out.bel.block _ (lt_of_block RK103.out)).trans RK103.out)
        have RC1104 := Lib.hid ((HSD.out.bel.block _ (lt_of_block RC1.out)).trans RC1.out)
        have RQ1104 := Lib.hid ((HSD.out.bel.block _ (lt_of_block RQ1.out)).trans RQ1.out)
        have HB104 := Lib.hid (HB103.out.trans (HSD.out.bel.mono HB103.out.size))
        clear RX103 RK103 RC1 RQ1 HB103 HSD
        clear HBLN HSEA HSEB hz SO
        have HSV := Lib.hid (show ∀ W, Below wc2.heap.size wc2 W → W.rangeAt X 0 (yvs k).toList from fun W hW => range_of_row (by rw [Array.toArray_toList]; exact (hW.block _ (lt_of_block RX104.out)).trans RX104.out))
        go_upto_region 10 with fail
        try simp only [Act.put]
        refine wp_region_noPanic ?_
        refine wp_region_held_drew (S := fun W => W.rangeAt X 0 (yvs k).toList) (by kernel_rfl) (HSV.out _ (Below.refl _ wc2).drew) (fun hHeld => ?_)
        refine wpAnyH_take (i := 0) (oi := ⟨some 62, _, _, _, _, _⟩) rfl (by kernel_rfl) (by decide +kernel) (by decide +kernel) (fun _ _ _ h => h) (yieldsIf_load_mid (by rfl) _ _ rfl (X) (0) rfl (yvs k).toList _ (fun w' h => h) Tryd.underlying24 rfl Ik.out) (by assumption) ?_
        try simp only [Act.put, List.setIfInBounds_toArray, List.set_cons_zero, List.set_cons_succ, Array.toArray_toList]
        refine wpAnyH_take (i := 1) (oi := ⟨some 63, _, _, _, _, _⟩) (v := ?_) rfl (by kernel_rfl) (by decide +kernel) (by decide +kernel) (fun _ _ _ h => h) (Or.inl ⟨by rfl, ?_⟩) (by assumption) ?_
        rotate_left 1
        · (intro w' hSw; go_simp; try with_reducible rfl)
        try simp only [Act.put, List.setIfInBounds_toArray, List.set_cons_zero, List.set_cons_succ]
        refine wpAnyH_take (i := 2) (oi := ⟨some 64, _, _, _, _, _⟩) (v := ?_) rfl (by kernel_rfl) (by decide +kernel) (by decide +kernel) (fun _ _ _ h => h) (Or.inl ⟨by rfl, ?_⟩) (by assumption) ?_
        rotate_left 1
        · (intro w' hSw; go_simp; try with_reducible rfl)
        try simp only [Act.put, List.setIfInBounds_toArray, List.set_cons_zero, List.set_cons_succ]
        clear hHeld
        refine wpAnyH_ready (rs := [3]) (by decide +kernel) (by simp) ?_
        refine AllReadyH.cons rfl (fun K hK => ?_) AllReadyH.nil
        go_simp
        go_at_call 24
        refine (HMD.out _).mono ?_
        rintro e w5 ⟨rfl, hb⟩
        have HB5 := Lib.hid ((Below.refl wc2.heap.size wc2).drew.trans (hb.mono (Below.refl wc2.heap.size wc2).drew.size))
        clear hb
        go_wp2_with fail
        refine hK.out _ _ (HSV.out _ HB5.out) (fun hHeld => ?_)
        clear hK K
        try simp only [Act.put, List.setIfInBounds_toArray, List.set_cons_zero, List.set_cons_succ]
        clear hHeld
        refine wpAnyH_ready (rs := [4]) (by decide +kernel) (by simp) ?_
        refine AllReadyH.cons rfl (fun K hK => ?_) AllReadyH.nil
        go_simp
        go_at_call 23
        refine (HST.out _).mono ?_
        rintro e w6 ⟨rfl, hA, hb⟩
        have HB6 := Lib.hid (HB5.out.trans (hb.mono HB5.out.size))
        generalize w5.heap.size + 1 + 1 = GS at *
        have HS6 := Lib.hid hA
        clear hb hA
        go_wp2_with fail
        refine hK.out _ _ (HSV.out _ HB6.out) (fun hHeld => ?_)
        clear hK K
        try simp only [Act.put, List.setIfInBounds_toArray, List.set_cons_zero, List.set_cons_succ]
        refine wpAnyH_take (i := 5) (oi := ⟨some 61, _, _, _, _, _⟩) (v := ?_) rfl (by kernel_rfl) (by decide +kernel) (by decide +kernel) (fun _ _ _ h => h) (Or.inl ⟨by rfl, ?_⟩) (by assumption) ?_
        rotate_left 1
        · (intro w' hSw; go_simp; try with_reducible rfl)
        try simp only [Act.put, List.setIfInBounds_toArray, List.set_cons_zero, List.set_cons_succ]
        refine wpAnyH_take (i := 6) (oi := ⟨some 67, _, _, _, _, _⟩) (v := ?_) rfl (by kernel_rfl) (by decide +kernel) (by decide +kernel) (fun _ _ _ h => h) (Or.inl ⟨by rfl, ?_⟩) (by assumption) ?_
        rotate_left 1
        · (intro w' hSw; go_simp; try with_reducible rfl)
        try simp only [Act.put, List.setIfInBounds_toArray, List.set_cons_zero, List.set_cons_succ]
        refine wpAnyH_take (i := 7) (oi := ⟨some 68, _, _, _, _, _⟩) (v := ?_) rfl (by kernel_rfl) (by decide +kernel) (by decide +kernel) (fun _ _ _ h => h) (Or.inl ⟨by rfl, ?_⟩) (by assumption) ?_
        rotate_left 1
        · (intro w' hSw; go_simp; try with_reducible rfl)
        try simp only [Act.put, List.setIfInBounds_toArray, List.set_cons_zero, List.set_cons_succ]
        refine wpAnyH_take (i := 8) (oi := ⟨some 16, _, _, _, _, _⟩) (v := ?_) rfl (by kernel_rfl) (by decide +kernel) (by decide +kernel) (fun _ _ _ h => h) (Or.inl ⟨by rfl, ?_⟩) (by assumption) ?_
        rotate_left 1
        · (intro w' hSw; go_simp; try with_reducible rfl)
        try simp only [Act.put, List.setIfInBounds_toArray, List.set_cons_zero, List.set_cons_succ]
        refine wpAnyH_take (i := 9) (oi := ⟨some 17, _, _, _, _, _⟩) (v := ?_) rfl (by kernel_rfl) (by decide +kernel) (by decide +kernel) (fun _ _ _ h => h) (Or.inl ⟨by rfl, ?_⟩) (by assumption) ?_
        rotate_left 1
        · (intro w' hSw; go_simp; try with_reducible rfl)
        try simp only [Act.put, List.setIfInBounds_toArray, List.set_cons_zero, List.set_cons_succ]
        clear hHeld
        refine wpAnyH_done (by decide +kernel) ?_ _
        refine NoPanic.normal ?_
        have RX105 := Lib.hid ((HB6.out.block _ (lt_of_block RX104.out)).trans RX104.out)
        have RK105 := Lib.hid ((HB6.out.block _ (lt_of_block RK104.out)).trans RK104.out)
        have RC1105 := Lib.hid ((HB6.out.block _ (lt_of_block RC1104.out)).trans RC1104.out)
        have RQ1105 := Lib.hid ((HB6.out.block _ (lt_of_block RQ1104.out)).trans RQ1104.out)
        have RC2105 := Lib.hid ((HB6.out.block _ (lt_of_block RC2.out)).trans RC2.out)
        have RQ2105 := Lib.hid ((HB6.out.block _ (lt_of_block RQ2.out)).trans RQ2.out)
        have HB105 := Lib.hid (HB104.out.trans (HB6.out.mono HB104.out.size))
        clear RX104 RK104 RC1104 RQ1104 RC2 RQ2 HB104 HB5
        have HSM := Lib.hid (same_eq w6 _ _ _ (BS.of_arr0 (n := 512) (cap := 512) (show ArrY w6 c2 5 SB from RC2105.out) HSLB.out) (BS.of_arr0 (n := 512) (cap := 512) HS6.out HSLB.out))
        go_wp2_with fail
        refine HSM.out.mono ?_
        rintro e wx ⟨rfl, hwx⟩
        rw [hwx]
        clear hwx HSM
        go_wp2_with fail
        refine (HBLK.out _ HB105.out).mono ?_
        rintro e w7 ⟨rfl, hA, hb⟩
        have HL7 := Lib.hid (show w7.heap[w6.heap.size]? = some (.cells (yvs BA) 5 (0, 0)) from hA)
        have RX106 := Lib.hid ((hb.block _ (lt_of_block RX105.out)).trans RX105.out)
        have RK106 := Lib.hid ((hb.block _ (lt_of_block RK105.out)).trans RK105.out)
        have RC1106 := Lib.hid ((hb.block _ (lt_of_block RC1105.out)).trans RC1105.out)
        have RQ1106 := Lib.hid ((hb.block _ (lt_of_block RQ1105.out)).trans RQ1105.out)
        have RC2106 := Lib.hid ((hb.block _ (lt_of_block RC2105.out)).trans RC2105.out)
        have RQ2106 := Lib.hid ((hb.block _ (lt_of_block RQ2105.out)).trans RQ2105.out)
        have RS106 := Lib.hid ((hb.block _ (lt_of_block HS6.out)).trans HS6.out)
        have HB106 := Lib.hid (HB105.out.trans (hb.mono HB105.out.size))
        clear RX105 RK105 RC1105 RQ1105 RC2105 RQ2105 HS6 HB105
        clear hb hA
        clear HBLK HST HMD HSV
        generalize w6.heap.size = GL at *
        go_wp2_with fail
        go_loopw [18, 19, 88] (fun _ _ v88 wr => ∃ i : Nat, i ≤ 512 ∧ v88 = .int .i64 (i : Nat) ∧ Below w7.heap.size w7 wr) (fun _ _ v _ => 512 - (intOf v).toNat)
        case atStart => exact ⟨0, by omega, rfl, Below.refl _ _⟩
        case round =>
          obtain ⟨i, hi, rfl, hb⟩ := hrel
          have HB := Lib.hid hb
          by_cases hlt : i < 512
          · have cx := ArrY.cell (show ArrY wr c1 5 SA from (hb.block _ (lt_of_block RC1106.out)).trans RC1106.out) (k := i) (by rw [HSLA.out]; exact hlt)
            have cy := ArrY.cell (show ArrY wr c2 5 SB from (hb.block _ (lt_of_block RC2106.out)).trans RC2106.out) (k := i) (by rw [HSLB.out]; exact hlt)
            have cl := ArrY.cell (show ArrY wr GL 5 BA from (hb.block _ (lt_of_block HL7.out)).trans HL7.out) (k := i) (by rw [HBL.out]; exact hlt)
            rw [HSAT.out i hlt] at cx
            generalize BA.getD i 0 = l at *
            generalize SB.getD i 0 = s at *
            have hx : bits .xor .u8 (yv (l ^^^ s)) (yv s) = yv l := by rw [yv_xor, BitVec.xor_assoc, BitVec.xor_self, BitVec.xor_zero]
            have iI : (i : Int) < 512 := by omega
            have i0 : (0 : Int) ≤ (i : Int) := by omega
            have HLT := Lib.hid hlt
            clear hb hi hlt
            go_wp2_with fail
            go_quiet (fail)
            go_wp2_with fail
            go_roundw
            case rel => exact ⟨i + 1, by have := HLT.out; omega, by go_num, ybelow_drewN HB.out _⟩
            case measure => simp [intOf]; have := HLT.out; omega
          · have iI : decide ((i : Int) < 512) = false := by simp; omega
            clear hb hi hlt
            go_wp2_with fail
            go_ret
            exact ⟨rfl, HB106.out.trans (HB.out.mono HB106.out.size)⟩
set_option maxRecDepth 100000 in
theorem lifted (os : Os) (started : os.Started) (H : Type) (enc : TypeId × Value → H) :
    ReturnsInHanded {} Tryd.checked os 7 .any (fun w args => (Rows.sealStreamsSpec.pre enc Tryd.prog Tryd.f7 [] false w args ∧ laidMetH Tryd.prog [("banyan/sha.roundNumbers", Rows.laid_banyan_sha_roundNumbers)] w) ∧ sizedMet enc Tryd.prog Tryd.f7 (OpenSpec.ofChange Rows.sealStreamsSpec) false w args)
      (Rows.sealStreamsSpec.post enc Tryd.prog Tryd.f7 false true false false) := by
  refine returnsInHanded_of_change_and (C := Tryd.checked) (X := fun w _ => laidMetH Tryd.prog [("banyan/sha.roundNumbers", Rows.laid_banyan_sha_roundNumbers)] w) (fun _ _ _ hh h => h.of_heap hh) own2 started (by kernel_rfl) Tryd.func7
    (ChangeSpec.witness_shaped (enc := enc) (C := Tryd.checked) (os := os) (X := fun w _ => laidMetH Tryd.prog [("banyan/sha.roundNumbers", Rows.laid_banyan_sha_roundNumbers)] w) false (World.doorLaid Tryd.prog 400 os) #[.agg (List.replicate 32 (Value.int .u8 0) ++ ([Value.int .u32 0] ++ ([Value.int .u16 0] ++ ([Value.slice none 0 0])))).toArray] 8 rfl (World.shaped_of_RefB (by kernel_rfl) (by kernel_rfl)) (by kernel_rfl) (by kernel_rfl) (by kernel_rfl) (door_met os _)) ?_
  intro W base args ds gs before hval0 hW _ hsz0 hL _
  have hval : ∀ (j : Nat) t v, Tryd.f7.params[j]? = some t → args[j]? = some v → Value.okWide Tryd.prog W .any base t v := hval0
  have hsz : (DataW.weightsEach Tryd.prog (Tryd.f7.params.toList ++ Rows.sealStreamsSpec.plain.varTypes Tryd.prog) (ds ++ gs)).all (· ≤ reachBytes) = true := hsz0
  clear hsz0
  have hW' := hW
  obtain ⟨p, q, hA0, hV, rfl, hfz, hnd⟩ := hW
  have hA : DataW.TrodAll enc Tryd.prog W 0 (fun _ => true) true Tryd.f7.params.toList args.toList ds p := hA0
  rw [Tryd.params7] at hA hval hsz
  obtain ⟨v0, vs0, d0, ds0, p0, q0, hargs, rfl, rfl, h0, r0⟩ := trodAll_cons hA
  obtain ⟨rfl, rfl, rfl⟩ := trodAll_nil r0
  obtain rfl : args = #[v0] := by cases args; simp_all
  obtain ⟨rfl, rfl⟩ := trodVars_none hV
  have k0 := h0
  have lt0 : ∀ x ∈ p0, x.block < W.heap.size := by obtain ⟨m, hm⟩ := k0; exact DataW.trod_lt m _ _ _ hm
  obtain ⟨k, bi, ad, ba, bc, b, rfl, qf⟩ := par_stream12 (j := 0) (hval 0 62 v0 rfl rfl) h0 hsz rfl rfl
  have hK := of_laid hL
  clear hA0 hval0
  refine (walk W k bi ad ba bc b qf hK).mono fun e W' ⟨he, bel⟩ => ?_
  subst he
  exact ⟨_, rfl, _, _, _, [], _, [], hW', trodAll_mk1 (shut_bool Tryd.underlying4 _), (trodAll_cons_mk (Below.trod laidOut2 (by kernel_rfl) (of_decide_eq_true (by kernel_rfl)) k0 bel lt0) trodAll_mk0), rfl, bel.frame _, fun h => by cases h⟩

theorem over : Rows.SealStreamsSaid :=
  OpenClaim.holds_of_wide 7 Tryd.f7 rfl rfl rfl rfl rfl rfl rfl ⟨rfl, rfl, rfl, rfl, rfl⟩ rfl rfl rfl rfl rfl (by kernel_rfl) Tryd.func7 (by kernel_rfl)
    (of_decide_eq_true (by kernel_rfl)) (by unfold Func.isWrapper; first | (rw [if_pos (by decide +kernel)]; kernel_rfl) | (rw [if_neg (by decide +kernel)]; exact ⟨rfl, rfl⟩))
    (fun os started H enc _ => lifted os started H enc)

/-- The statement. -/
theorem proved : Rows.SealStreamsCardSaid :=
  Claim7.holds_tied_plain_at .later [] [.data] true (true, "0131f9f1a1f02ebf5a16687d2fe8903395483cdb43346dae7a1c73827a36235e") false
    over (fun _ h => by cases h) (by kernel_rfl) (fun _ h => by cases h) sealStreams_row_tie rfl ⟨rfl, rfl⟩ (by kernel_rfl) rfl
    (fun f fn hf hfn => by
      obtain rfl : f = 7 := Option.some.inj ((show Tryd.prog.funcNamed "banyan/banyanlaw12.SealStreams" = some 7 by kernel_rfl).symm.trans hf) |>.symm
      obtain rfl : fn = Tryd.f7 := (Option.some.inj (Tryd.func7.symm.trans hfn)).symm
      exact ⟨by kernel_rfl, fun j t ht => by
        rw [Tryd.params7] at ht
        have hm : t ∈ [62] := by simpa using Array.mem_of_getElem? ht
        have hall : ([62].all fun u => !Tryd.prog.wantsStandIn u) = true := by kernel_rfl
        exact (show Tryd.prog.wantsStandIn t = false by simpa using List.all_eq_true.1 hall t hm)⟩)
    (by kernel_rfl)
#print axioms proved
end Go.Proofs.YtfgdddejpdjllaaDoor.sealStreams
