/-
  'SealOthers' returns true at every input, and each argument reads behind the call as it read before. Conditions: the package-level variable that the row lists starts as the program's text lays it (the card ties that).
-/
import Derived.Test.YtfgdddejpdjllaaDoorLaid
import Derived.Test.YtfgdddejpdjllaaDoorCards
import Derived.Test.YtfgdddejpdjllaaDoorTie
import Derived.Test.YtfgdddejpdjllaaDoorEj
import Derived.Deep.CutRange
import Derived.Deep.DeepCutAuto
namespace Go.Proofs.YtfgdddejpdjllaaDoor.sealOthers
open Go.ChangeShapes Go.WideShapes Go.ChangeAt Go.RowKit
set_option linter.unusedVariables false


set_option maxRecDepth 100000 in
set_option maxHeartbeats 1600000 in
theorem walk (w : World) (x0 : List Int) (hx0 : x0.length = 32) (hy0 : Byt x0) (a1 : Option Addr) (len1 cap1 : Nat) (x1 : List Int) (e1 : x1.length = len1) (m1 : len1 ≤ cap1) (n1 : cap1 ≤ 140737488351232) (b1 : BS w (.slice a1 len1 cap1) x1) (a2 : Option Addr) (len2 cap2 : Nat) (x2 : List Int) (e2 : x2.length = len2) (m2 : len2 ≤ cap2) (n2 : cap2 ≤ 140737488351232) (b2 : BS w (.slice a2 len2 cap2) x2) (hK : KT w) :
    Calls Tryd.prog 9 #[.agg (u8s x0), .slice a1 len1 cap1, .slice a2 len2 cap2] w fun e w' => e = .returned (.bool true) ∧ Below w.heap.size w w' := by
  have hz32 := zero_arr32
  obtain ⟨k, hk⟩ : ∃ k, toY x0 = k := ⟨_, rfl⟩
  have hkl : k.length = 32 := by rw [← hk, toY_length]; exact hx0
  rw [show u8s x0 = yvs k by rw [← hk, yvs_toY _ hy0]]
  clear hk
  have HLk := Lib.hid hkl
  have HK := Lib.hid hK
  have hA0 := heap_alloc_new w (.cells (yvs k) 24)
  have hB0 := (Below.refl w.heap.size w).alloc (Nat.le_refl _) (.cells (yvs k) 24)
  have HAL := Lib.hid (fun (W : World) (hb : Below w.heap.size w W) => alive12_any W (hK.below hb hK.pos))
  have HI1 := Lib.hid (bts_of b1 e1 m1 n1)
  have HI2 := Lib.hid (bts_of b2 e2 m2 n2)
  generalize toY x1 = Y1 at *
  generalize toY x2 = Y2 at *
  have l1 : (len1 : Int) ≤ 140737488351232 := by omega
  have l2 : (len2 : Int) ≤ 140737488351232 := by omega
  by_cases hbig : 600 < len1 ∨ 600 < len2
  · rcases Nat.lt_or_ge 600 len1 with h1 | h1
    · have g1 : (600 : Int) < (len1 : Int) := by omega
      clear hbig h1 e1 m1 n1 b1 e2 m2 n2 b2 hK hkl hx0 hy0
      generalize yvs k = YK at *
      go_enter Tryd.func9, Tryd.ntmps9
      go_wp2_with fail
      refine (HAL.out _ hB0).mono ?_
      rintro e w1 ⟨rfl, hb1⟩
      have HB1 := Lib.hid (hB0.trans (hb1.mono hB0.size))
      clear hb1 hB0 hA0 HAL
      go_wp2_with fail
      go_ret
      exact ⟨rfl, HB1.out⟩
    · have g1 : (len1 : Int) ≤ 600 := by omega
      have g2 : (600 : Int) < (len2 : Int) := by omega
      clear hbig h1 e1 m1 n1 b1 e2 m2 n2 b2 hK hkl hx0 hy0
      generalize yvs k = YK at *
      go_enter Tryd.func9, Tryd.ntmps9
      go_wp2_with fail
      refine (HAL.out _ hB0).mono ?_
      rintro e w1 ⟨rfl, hb1⟩
      have HB1 := Lib.hid (hB0.trans (hb1.mono hB0.size))
      clear hb1 hB0 hA0 HAL
      go_wp2_with fail
      go_ret
      exact ⟨rfl, HB1.out⟩
  have g1 : (len1 : Int) ≤ 600 := by omega
  have g2 : (len2 : Int) ≤ 600 := by omega
  have HNS := Lib.hid (show len1 ≤ 600 ∧ len2 ≤ 600 by omega)
  clear hbig e1 m1 n1 b1 e2 m2 n2 b2 hK hkl hx0 hy0
  have hkz : (k ++ zeroY 32).length = 64 := by rw [List.length_append, HLk.out]; rfl
  have Sk := Lib.hid (size_arr32 k HLk.out)
  have SK := Lib.hid (size_keys _ hkz)
  have IK := Lib.hid (info_keys64 _ hkz)
  have SL := Lib.hid (show (yvs (zeroY 64)).size = (yvs (k ++ zeroY 32)).size by rw [yvs_size, yvs_size, hkz]; rfl)
  have SO := Lib.hid (yvs_one (k ++ zeroY 32))
  have HBP := Lib.hid (penc_build k HLk.out)
  have hz1 := zero_keys
  have hz := zero_ptr
  clear hkz
  have HBLK := Lib.hid (fun (W : World) (hb : Below w.heap.size w W) => And.intro (block_any Y1 a1 len1 cap1 W (HI1.out.below hb) (by have := HNS.out; omega)) (block_any Y2 a2 len2 cap2 W (HI2.out.below hb) (by have := HNS.out; omega)))
  have HBL := Lib.hid (And.intro (blockL_length Y1) (blockL_length Y2))
  obtain ⟨BA, hBA⟩ : ∃ z, blockL Y1 = z := ⟨_, rfl⟩
  obtain ⟨BB, hBB⟩ : ∃ z, blockL Y2 = z := ⟨_, rfl⟩
  rw [hBA, hBB] at HBLK HBL
  clear hBA hBB
  have HSEA := Lib.hid (fun (W : World) (g : Nat) (hW : Below w.heap.size w W) (hg : ArrY W g 5 BA) => show Calls Tryd.prog 14 #[.agg (yvs (k ++ zeroY 32)), .int .u64 4, .int .u32 5, .slice (some ⟨g, 0, none⟩) 512 512] W (SealOf W (sealS k 4 5 BA) (ptrOf 4 5 ((sealS k 4 5 BA).map yv))) from
    pseal_ok k (zeroY 32) 4 5 BA (some ⟨g, 0, none⟩) 512 W (HK.out.below hW HK.out.pos) HLk.out rfl HBL.out.1 (BS.of_arr0 hg HBL.out.1) (by decide) (by decide) (by decide) (by decide))
  have HSEB := Lib.hid (fun (W : World) (g : Nat) (hW : Below w.heap.size w W) (hg : ArrY W g 5 BB) => show Calls Tryd.prog 14 #[.agg (yvs (k ++ zeroY 32)), .int .u64 4, .int .u32 6, .slice (some ⟨g, 0, none⟩) 512 512] W (SealOf W (sealS k 4 6 BB) (ptrOf 4 6 ((sealS k 4 6 BB).map yv))) from
    pseal_ok k (zeroY 32) 4 6 BB (some ⟨g, 0, none⟩) 512 W (HK.out.below hW HK.out.pos) HLk.out rfl HBL.out.2 (BS.of_arr0 hg HBL.out.2) (by decide) (by decide) (by decide) (by decide))
  have HSLA := Lib.hid (sealS_length k 4 5 BA HBL.out.1)
  have HSLB := Lib.hid (sealS_length k 4 6 BB HBL.out.2)
  generalize sealS k 4 5 BA = SA at *
  generalize sealS k 4 6 BB = SB at *
  have HOX := Lib.hid (fun (W : World) (l m : List (BitVec 8)) (g c : Nat) (hW : Below w.heap.size w W) (hg : ArrY W g 5 l) (hl : l.length = 512) (hm : m.length = 512) (hc : c < 4294967296) => show Calls Tryd.prog 17 #[.agg (yvs (k ++ zeroY 32)), .agg (ptrRow (ptrOf 4 c (m.map yv))).toArray, .slice (some ⟨g, 0, none⟩) 512 512] W fun e w' => ∃ x y z, e = .returned (.tuple #[.slice x y z, .int .i64 (if hashS (l.map yv) = hashS (m.map yv) then 0 else 5)]) ∧ Below W.heap.size W w' from by
    have h := popen12_any k (zeroY 32) (ptrOf 4 c (m.map yv)) l (some ⟨g, 0, none⟩) 512 512 W (HK.out.below hW HK.out.pos) HLk.out rfl (Bts.arr hg hl (by decide))
    have ho : (openA k (ptrOf 4 c (m.map yv)) l).2 = if hashS (l.map yv) = hashS (m.map yv) then 0 else 5 := by
      unfold openA
      rw [if_neg (by omega), fits_len _ _ hl, (ptrOf_parts 4 c (m.map yv) hc (by decide)).2.2]
      by_cases hq : hashS (l.map yv) = hashS (m.map yv)
      · rw [if_pos (by simpa using hq), if_pos hq]
      · rw [if_neg (by simpa using hq), if_neg hq]
    rw [ho] at h
    exact h.mono fun e w' ⟨x, y, z, h1, _, h2⟩ => ⟨x, y, z, h1, h2⟩)
  have HOA := Lib.hid (fun (W : World) (g : Nat) (hW : Below w.heap.size w W) (hg : ArrY W g 5 SA) => HOX.out W SA SB g 6 hW hg HSLA.out HSLB.out (by decide))
  have HOB := Lib.hid (fun (W : World) (g : Nat) (hW : Below w.heap.size w W) (hg : ArrY W g 5 SB) => HOX.out W SB SA g 5 hW hg HSLB.out HSLA.out (by decide))
  have HSU := Lib.hid (fun (W : World) (l : List (BitVec 8)) (g : Nat) (hW : Below w.heap.size w W) (hg : ArrY W g 5 l) (hl : l.length = 512) => shasum_any (l.map yv) (.slice (some ⟨g, 0, none⟩) 512 512) W (HK.out.below hW HK.out.pos) (BS.of_arr0 hg hl) (room_of _ _ _ (Nat.le_refl _) (by decide)) (by rw [List.length_map, hl]; decide))
  have HEQ := Lib.hid (eq_hash (hashS (SA.map yv)) (hashS (SB.map yv)) (hashS_length _) (hashS_length _) (hashS_byt _) (hashS_byt _))
  have SPA := Lib.hid (size_ptrA (ptrOf 4 5 (SA.map yv)))
  have SPB := Lib.hid (size_ptrA (ptrOf 4 6 (SB.map yv)))
  have EPA := Lib.hid (show (ptrRow zeroPtr).toArray.size = (ptrRow (ptrOf 4 5 (SA.map yv))).toArray.size by simp [ptrRow_length])
  have EPB := Lib.hid (show (ptrRow zeroPtr).toArray.size = (ptrRow (ptrOf 4 6 (SB.map yv))).toArray.size by simp [ptrRow_length])
  have OPA := Lib.hid (ptrRow_one (ptrOf 4 5 (SA.map yv)))
  have OPB := Lib.hid (ptrRow_one (ptrOf 4 6 (SB.map yv)))
  have HPQ := Lib.hid (eq_ptr (ptrOf 4 5 (SA.map yv)) (ptrOf 4 5 (SA.map yv)))
  have HDE := Lib.hid (show SA = SB → hashS (SA.map yv) = hashS (SB.map yv) from fun h => by rw [h])
  clear HOX
  generalize ptrOf 4 5 (SA.map yv) = PTA at *
  generalize ptrOf 4 6 (SB.map yv) = PTB at *
  generalize hPRA : (ptrRow PTA).toArray = PRA at *
  generalize hPRB : (ptrRow PTB).toArray = PRB at *
  have HPRA := Lib.hid hPRA
  have HPRB := Lib.hid hPRB
  generalize (ptrRow zeroPtr).toArray = PZ at *
  generalize yvs (k ++ zeroY 32) = KM at *
  generalize yvs (zeroY 64) = ZK at *
  generalize yvs k = YK at *
  generalize hHA : hashS (SA.map yv) = HA at *
  generalize hHB : hashS (SB.map yv) = HB at *
  have HHA := Lib.hid hHA
  have HHB := Lib.hid hHB
  clear hHA hHB
  clear hPRA hPRB HLk
  go_enter Tryd.func9, Tryd.ntmps9
  go_wp2_with fail
  refine (HAL.out _ hB0).mono ?_
  rintro e w1 ⟨rfl, hb1⟩
  have HX1 := Lib.hid ((hb1.block w.heap.size (lt_of_block hA0)).trans hA0)
  have HB1 := Lib.hid (hB0.trans (hb1.mono hB0.size))
  clear hb1 hB0 hA0 HAL hz32
  go_upto_region 6 with (first
    | (with_reducible refine wpList_load_row (o := ⟨some 31, _, _, _, _, _⟩) rfl 24 _ rfl w.heap.size rfl 24 YK (0, 0) _ HX1.out Tryd.underlying24 rfl Sk.out ?_)
    | (with_reducible refine wpList_build_run (o := ⟨some 32, _, _, _, _, _⟩) rfl 28 _ rfl #[(0, .agg YK)] (by simp [Act.eval, Act.put]) (.agg KM) (HBP.out _) ?_)
    | (with_reducible refine wpList_store_row (o := ⟨none, .store _ (.tmp 7) _, _, _, _, _⟩) rfl 28 _ _ rfl w1.heap.size KM rfl rfl 28 ZK (heap_alloc_new w1 _) SK.out SL.out SO.out ?_))
  generalize hWs : World.setRow _ w1.heap.size _ = ws101
  obtain ⟨r1, hb⟩ := fresh_one w1 ZK KM 28 ws101 hWs.symm
  have RNK := Lib.hid r1
  have RX102 := Lib.hid ((hb.block _ (lt_of_block HX1.out)).trans HX1.out)
  have HB102 := Lib.hid (HB1.out.trans (hb.mono HB1.out.size))
  clear HX1 HB1
  clear hWs r1 hb
  generalize w1.heap.size = BK at *
  clear hz1
  simp only [Act.put]
  have HSV1 := Lib.hid (show ∀ W, Below ws101.heap.size ws101 W → W.rangeAt BK 0 KM.toList from fun W hW => range_of_row (by rw [Array.toArray_toList]; exact (hW.block _ (lt_of_block RNK.out)).trans RNK.out))
  have HBK1 := Lib.hid (fun (W : World) (hW : Below ws101.heap.size ws101 W) => (HBLK.out W (HB102.out.trans (hW.mono HB102.out.size))).1)
  have HSE1 := Lib.hid (fun (W : World) (g : Nat) (hW : Below ws101.heap.size ws101 W) => HSEA.out W g (HB102.out.trans (hW.mono HB102.out.size)))
  have HPR := HPRA
  go_cut [8, 9, 10] from 11 (fun va vb vc wc1 => ∃ c q, va = .slice (some ⟨c, 0, none⟩) 512 512 ∧ vb = .pointer (some ⟨q, 0, none⟩) ∧ vc = .int .i64 0 ∧ SD ws101 wc1 c q SA PTA)
  case first =>
    try simp only [Act.put]
    refine wp_region_noPanic ?_
    refine wp_region_held_drew (S := fun W => W.rangeAt BK 0 KM.toList) (by kernel_rfl) (HSV1.out _ (Below.refl _ ws101).drew) (fun hHeld => ?_)
    refine wpAnyH_take (i := 0) (oi := ⟨some 34, _, _, _, _, _⟩) rfl (by kernel_rfl) (by decide +kernel) (by decide +kernel) (fun _ _ _ h => h) (yieldsIf_load_mid (by rfl) _ _ rfl (BK) (0) rfl KM.toList _ (fun w' h => h) Tryd.underlying28 rfl IK.out) (by assumption) ?_
    try simp only [Act.put, List.setIfInBounds_toArray, List.set_cons_zero, List.set_cons_succ, Array.toArray_toList]
    refine wpAnyH_take (i := 1) (oi := ⟨some 35, _, _, _, _, _⟩) (v := ?_) rfl (by kernel_rfl) (by decide +kernel) (by decide +kernel) (fun _ _ _ h => h) (Or.inl ⟨by rfl, ?_⟩) (by assumption) ?_
    rotate_left 1
    · (intro w' hSw; go_simp; try with_reducible rfl)
    try simp only [Act.put, List.setIfInBounds_toArray, List.set_cons_zero, List.set_cons_succ]
    clear hHeld
    have HB0 := Lib.hid (Below.refl ws101.heap.size ws101).drew
    refine wpAnyH_ready (rs := [2, 8]) (by decide +kernel) (by simp) ?_
    refine AllReadyH.cons rfl (fun K hK => ?_) (AllReadyH.cons rfl (fun K hK => ?_) AllReadyH.nil)
    · go_simp
      go_at_call 22
      refine (HBK1.out _ HB0.out).mono ?_
      rintro e wt1 ⟨rfl, hA, hst⟩
      have HB1 := Lib.hid (HB0.out.trans (hst.mono HB0.out.size))
      have HK1 := Lib.hid hA
      clear hA hst
      go_wp2_with fail
      refine hK.out _ _ (HSV1.out _ HB1.out) (fun hHeld => ?_)
      clear hK K hHeld
      try simp only [Act.put, List.setIfInBounds_toArray, List.set_cons_zero, List.set_cons_succ]
      refine wpAnyH_ready (rs := [3, 8]) (by decide +kernel) (by simp) ?_
      refine AllReadyH.cons rfl (fun K hK => ?_) (AllReadyH.cons rfl (fun K hK => ?_) AllReadyH.nil)
      · go_simp
        go_at_call 14
        refine (HSE1.out _ _ HB1.out HK1.out).mono ?_
        intro e wt2 hso
        unfold SealOf at hso
        rw [HPR.out] at hso
        obtain ⟨gc2, hgc, rfl, hA, hst⟩ := hso
        have HB2 := Lib.hid (HB1.out.trans (hst.mono HB1.out.size))
        have HC2 := Lib.hid hA
        have HGC2 := Lib.hid (Nat.le_trans HB1.out.size hgc)
        clear hA hst hgc
        go_wp2_with fail
        refine hK.out _ _ (HSV1.out _ HB2.out) (fun hHeld => ?_)
        clear hK K
        try simp only [Act.put, List.setIfInBounds_toArray, List.set_cons_zero, List.set_cons_succ]
        refine wpAnyH_take (i := 4) (oi := ⟨some 33, _, _, _, _, _⟩) (v := ?_) rfl (by kernel_rfl) (by decide +kernel) (by decide +kernel) (fun _ _ _ h => h) (Or.inl ⟨by rfl, ?_⟩) (by assumption) ?_
        rotate_left 1
        · (intro w' hSw; go_simp; try with_reducible rfl)
        try simp only [Act.put, List.setIfInBounds_toArray, List.set_cons_zero, List.set_cons_succ]
        refine wpAnyH_take (i := 5) (oi := ⟨some 38, _, _, _, _, _⟩) (v := ?_) rfl (by kernel_rfl) (by decide +kernel) (by decide +kernel) (fun _ _ _ h => h) (Or.inl ⟨by rfl, ?_⟩) (by assumption) ?_
        rotate_left 1
        · (intro w' hSw; go_simp; try with_reducible rfl)
        try simp only [Act.put, List.setIfInBounds_toArray, List.set_cons_zero, List.set_cons_succ]
        refine wpAnyH_take (i := 6) (oi := ⟨some 39, _, _, _, _, _⟩) (v := ?_) rfl (by kernel_rfl) (by decide +kernel) (by decide +kernel) (fun _ _ _ h => h) (Or.inl ⟨by rfl, ?_⟩) (by assumption) ?_
        rotate_left 1
        · (intro w' hSw; go_simp; try with_reducible rfl)
        try simp only [Act.put, List.setIfInBounds_toArray, List.set_cons_zero, List.set_cons_succ]
        refine wpAnyH_take (i := 7) (oi := ⟨some 40, _, _, _, _, _⟩) (v := ?_) rfl (by kernel_rfl) (by decide +kernel) (by decide +kernel) (fun _ _ _ h => h) (Or.inl ⟨by rfl, ?_⟩) (by assumption) ?_
        rotate_left 1
        · (intro w' hSw; go_simp; try with_reducible rfl)
        try simp only [Act.put, List.setIfInBounds_toArray, List.set_cons_zero, List.set_cons_succ]
        clear hHeld
        refine wpAnyH_ready (rs := [8]) (by decide +kernel) (by simp) ?_
        refine AllReadyH.cons rfl (fun K hK => ?_) AllReadyH.nil
        go_simp
        have hal := HB2.out.alloc HB2.out.size (.cells PZ 41)
        have hxl := heap_alloc_new (wt2) (.cells PZ 41)
        have hst := (Below.refl (wt2).heap.size (wt2)).alloc (Nat.le_refl _) (.cells PZ 41)
        refine hK.out _ _ (HSV1.out _ hal) (fun hHeld => ?_)
        clear hK K hHeld
        try simp only [Act.put, List.setIfInBounds_toArray, List.set_cons_zero, List.set_cons_succ]
        refine (show ∀ wa3 : World, wa3 = (wt2).alloc (.cells PZ 41) → _ from ?_) _ rfl
        intro wa3 ew
        rw [← ew] at hal hxl hst
        have HC3 := Lib.hid ((hst.block _ (lt_of_block HC2.out)).trans HC2.out)
        have HA3 := Lib.hid (show wa3.heap[wt2.heap.size]? = _ from hxl)
        have HGA3 := Lib.hid (show ws101.heap.size ≤ wt2.heap.size from HB2.out.size)
        have HB3 := Lib.hid hal
        have HECA3 := Lib.hid (show gc2 ≠ wt2.heap.size from Nat.ne_of_lt (lt_of_block HC2.out))
        clear ew hal hxl hst
        have hHeld := HSV1.out _ HB3.out
        refine wpAnyH_take (i := 9) (oi := ⟨some 8, _, _, _, _, _⟩) (v := ?_) rfl (by kernel_rfl) (by decide +kernel) (by decide +kernel) (fun _ _ _ h => h) (Or.inl ⟨by rfl, ?_⟩) (by assumption) ?_
        rotate_left 1
        · (intro w' hSw; go_simp; try with_reducible rfl)
        try simp only [Act.put, List.setIfInBounds_toArray, List.set_cons_zero, List.set_cons_succ]
        clear hHeld
        refine wpAnyH_ready (rs := [10]) (by decide +kernel) (by simp) ?_
        refine AllReadyH.cons rfl (fun K hK => ?_) AllReadyH.nil
        rw [if_pos (by kernel_rfl)]
        refine wp_store_row (o := ⟨none, .store _ (.tmp 9) _, _, _, _, _⟩) 41 _ _ rfl (wt2.heap.size) PRA rfl rfl 41 PZ (show (wa3).heap[wt2.heap.size]? = _ from HA3.out) SPA.out EPA.out OPA.out ?_
        refine hK.out _ _ (HSV1.out _ (ybelow_row HB3.out HGA3.out PRA)) (fun hHeld => ?_)
        clear hK K hHeld
        simp only [Act.put]
        have hHeld := HSV1.out _ (ybelow_row HB3.out HGA3.out PRA)
        refine wpAnyH_take (i := 11) (oi := ⟨some 10, _, _, _, _, _⟩) (v := ?_) rfl (by kernel_rfl) (by decide +kernel) (by decide +kernel) (fun _ _ _ h => h) (Or.inl ⟨by rfl, ?_⟩) (by assumption) ?_
        rotate_left 1
        · (intro w' hSw; go_simp; try with_reducible rfl)
        try simp only [Act.put, List.setIfInBounds_toArray, List.set_cons_zero, List.set_cons_succ]
        clear hHeld
        refine wpAnyH_done (by decide +kernel) ?_ _
        refine NoPanic.normal ?_
        go_wp2_with fail
        go_meet
        exact ⟨gc2, wt2.heap.size, rfl, rfl, rfl, ⟨ybelow_row HB3.out HGA3.out PRA, (setRow_other _ _ _ _ HECA3.out).trans HC3.out, by rw [HPR.out]; exact setRow_heap _ _ _ _ _ _ HA3.out, HECA3.out, HGC2.out, HGA3.out⟩⟩
      · go_simp
        have hal := HB1.out.alloc HB1.out.size (.cells PZ 41)
        have hxl := heap_alloc_new (wt1) (.cells PZ 41)
        have hst := (Below.refl (wt1).heap.size (wt1)).alloc (Nat.le_refl _) (.cells PZ 41)
        refine hK.out _ _ (HSV1.out _ hal) (fun hHeld => ?_)
        clear hK K hHeld
        try simp only [Act.put, List.setIfInBounds_toArray, List.set_cons_zero, List.set_cons_succ]
        refine (show ∀ wa5 : World, wa5 = (wt1).alloc (.cells PZ 41) → _ from ?_) _ rfl
        intro wa5 ew
        rw [← ew] at hal hxl hst
        have HK5 := Lib.hid ((hst.block _ (lt_of_block HK1.out)).trans HK1.out)
        have HA5 := Lib.hid (show wa5.heap[wt1.heap.size]? = _ from hxl)
        have HGA5 := Lib.hid (show ws101.heap.size ≤ wt1.heap.size from HB1.out.size)
        have HB5 := Lib.hid hal
        have HEKA5 := Lib.hid (show ws101.heap.size ≠ wt1.heap.size from Nat.ne_of_lt (lt_of_block HK1.out))
        clear ew hal hxl hst
        refine wpAnyH_ready (rs := [3]) (by decide +kernel) (by simp) ?_
        refine AllReadyH.cons rfl (fun K hK => ?_) AllReadyH.nil
        go_simp
        go_at_call 14
        refine (HSE1.out _ _ HB5.out HK5.out).mono ?_
        intro e wt6 hso
        unfold SealOf at hso
        rw [HPR.out] at hso
        obtain ⟨gc6, hgc, rfl, hA, hst⟩ := hso
        have HEAC6 := Lib.hid (show gc6 ≠ wt1.heap.size from Ne.symm (Nat.ne_of_lt (Nat.lt_of_lt_of_le (lt_of_block HA5.out) hgc)))
        have HA6 := Lib.hid ((hst.block _ (lt_of_block HA5.out)).trans HA5.out)
        have HB6 := Lib.hid (HB5.out.trans (hst.mono HB5.out.size))
        have HC6 := Lib.hid hA
        have HGC6 := Lib.hid (Nat.le_trans HB5.out.size hgc)
        clear hA hst hgc
        go_wp2_with fail
        refine hK.out _ _ (HSV1.out _ HB6.out) (fun hHeld => ?_)
        clear hK K
        try simp only [Act.put, List.setIfInBounds_toArray, List.set_cons_zero, List.set_cons_succ]
        refine wpAnyH_take (i := 4) (oi := ⟨some 33, _, _, _, _, _⟩) (v := ?_) rfl (by kernel_rfl) (by decide +kernel) (by decide +kernel) (fun _ _ _ h => h) (Or.inl ⟨by rfl, ?_⟩) (by assumption) ?_
        rotate_left 1
        · (intro w' hSw; go_simp; try with_reducible rfl)
        try simp only [Act.put, List.setIfInBounds_toArray, List.set_cons_zero, List.set_cons_succ]
        refine wpAnyH_take (i := 5) (oi := ⟨some 38, _, _, _, _, _⟩) (v := ?_) rfl (by kernel_rfl) (by decide +kernel) (by decide +kernel) (fun _ _ _ h => h) (Or.inl ⟨by rfl, ?_⟩) (by assumption) ?_
        rotate_left 1
        · (intro w' hSw; go_simp; try with_reducible rfl)
        try simp only [Act.put, List.setIfInBounds_toArray, List.set_cons_zero, List.set_cons_succ]
        refine wpAnyH_take (i := 6) (oi := ⟨some 39, _, _, _, _, _⟩) (v := ?_) rfl (by kernel_rfl) (by decide +kernel) (by decide +kernel) (fun _ _ _ h => h) (Or.inl ⟨by rfl, ?_⟩) (by assumption) ?_
        rotate_left 1
        · (intro w' hSw; go_simp; try with_reducible rfl)
        try simp only [Act.put, List.setIfInBounds_toArray, List.set_cons_zero, List.set_cons_succ]
        refine wpAnyH_take (i := 7) (oi := ⟨some 40, _, _, _, _, _⟩) (v := ?_) rfl (by kernel_rfl) (by decide +kernel) (by decide +kernel) (fun _ _ _ h => h) (Or.inl ⟨by rfl, ?_⟩) (by assumption) ?_
        rotate_left 1
        · (intro w' hSw; go_simp; try with_reducible rfl)
        try simp only [Act.put, List.setIfInBounds_toArray, List.set_cons_zero, List.set_cons_succ]
        clear hHeld
        have hHeld := HSV1.out _ HB6.out
        refine wpAnyH_take (i := 9) (oi := ⟨some 8, _, _, _, _, _⟩) (v := ?_) rfl (by kernel_rfl) (by decide +kernel) (by decide +kernel) (fun _ _ _ h => h) (Or.inl ⟨by rfl, ?_⟩) (by assumption) ?_
        rotate_left 1
        · (intro w' hSw; go_simp; try with_reducible rfl)
        try simp only [Act.put, List.setIfInBounds_toArray, List.set_cons_zero, List.set_cons_succ]
        clear hHeld
        refine wpAnyH_ready (rs := [10]) (by decide +kernel) (by simp) ?_
        refine AllReadyH.cons rfl (fun K hK => ?_) AllReadyH.nil
        rw [if_pos (by kernel_rfl)]
        refine wp_store_row (o := ⟨none, .store _ (.tmp 9) _, _, _, _, _⟩) 41 _ _ rfl (wt1.heap.size) PRA rfl rfl 41 PZ (show (wt6).heap[wt1.heap.size]? = _ from HA6.out) SPA.out EPA.out OPA.out ?_
        refine hK.out _ _ (HSV1.out _ (ybelow_row HB6.out HGA5.out PRA)) (fun hHeld => ?_)
        clear hK K hHeld
        simp only [Act.put]
        have hHeld := HSV1.out _ (ybelow_row HB6.out HGA5.out PRA)
        refine wpAnyH_take (i := 11) (oi := ⟨some 10, _, _, _, _, _⟩) (v := ?_) rfl (by kernel_rfl) (by decide +kernel) (by decide +kernel) (fun _ _ _ h => h) (Or.inl ⟨by rfl, ?_⟩) (by assumption) ?_
        rotate_left 1
        · (intro w' hSw; go_simp; try with_reducible rfl)
        try simp only [Act.put, List.setIfInBounds_toArray, List.set_cons_zero, List.set_cons_succ]
        clear hHeld
        refine wpAnyH_done (by decide +kernel) ?_ _
        refine NoPanic.normal ?_
        go_wp2_with fail
        go_meet
        exact ⟨gc6, wt1.heap.size, rfl, rfl, rfl, ⟨ybelow_row HB6.out HGA5.out PRA, (setRow_other _ _ _ _ HEAC6.out).trans HC6.out, by rw [HPR.out]; exact setRow_heap _ _ _ _ _ _ HA6.out, HEAC6.out, HGC6.out, HGA5.out⟩⟩
    · go_simp
      have hal := HB0.out.alloc HB0.out.size (.cells PZ 41)
      have hxl := heap_alloc_new (ws101.drew) (.cells PZ 41)
      have hst := (Below.refl (ws101.drew).heap.size (ws101.drew)).alloc (Nat.le_refl _) (.cells PZ 41)
      refine hK.out _ _ (HSV1.out _ hal) (fun hHeld => ?_)
      clear hK K hHeld
      try simp only [Act.put, List.setIfInBounds_toArray, List.set_cons_zero, List.set_cons_succ]
      refine (show ∀ wa8 : World, wa8 = (ws101.drew).alloc (.cells PZ 41) → _ from ?_) _ rfl
      intro wa8 ew
      rw [← ew] at hal hxl hst
      have HA8 := Lib.hid (show wa8.heap[ws101.heap.size]? = _ from hxl)
      have HGA8 := Lib.hid (show ws101.heap.size ≤ ws101.heap.size from HB0.out.size)
      have HB8 := Lib.hid hal
      clear ew hal hxl hst
      refine wpAnyH_ready (rs := [2]) (by decide +kernel) (by simp) ?_
      refine AllReadyH.cons rfl (fun K hK => ?_) AllReadyH.nil
      go_simp
      go_at_call 22
      refine (HBK1.out _ HB8.out).mono ?_
      rintro e wt9 ⟨rfl, hA, hst⟩
      have HA9 := Lib.hid ((hst.block _ (lt_of_block HA8.out)).trans HA8.out)
      have HB9 := Lib.hid (HB8.out.trans (hst.mono HB8.out.size))
      have HK9 := Lib.hid hA
      clear hA hst
      go_wp2_with fail
      refine hK.out _ _ (HSV1.out _ HB9.out) (fun hHeld => ?_)
      clear hK K hHeld
      try simp only [Act.put, List.setIfInBounds_toArray, List.set_cons_zero, List.set_cons_succ]
      refine wpAnyH_ready (rs := [3]) (by decide +kernel) (by simp) ?_
      refine AllReadyH.cons rfl (fun K hK => ?_) AllReadyH.nil
      go_simp
      go_at_call 14
      refine (HSE1.out _ _ HB9.out HK9.out).mono ?_
      intro e wt10 hso
      unfold SealOf at hso
      rw [HPR.out] at hso
      obtain ⟨gc10, hgc, rfl, hA, hst⟩ := hso
      have HEAC10 := Lib.hid (show gc10 ≠ ws101.heap.size from Ne.symm (Nat.ne_of_lt (Nat.lt_of_lt_of_le (lt_of_block HA9.out) hgc)))
      have HA10 := Lib.hid ((hst.block _ (lt_of_block HA9.out)).trans HA9.out)
      have HB10 := Lib.hid (HB9.out.trans (hst.mono HB9.out.size))
      have HC10 := Lib.hid hA
      have HGC10 := Lib.hid (Nat.le_trans HB9.out.size hgc)
      clear hA hst hgc
      go_wp2_with fail
      refine hK.out _ _ (HSV1.out _ HB10.out) (fun hHeld => ?_)
      clear hK K
      try simp only [Act.put, List.setIfInBounds_toArray, List.set_cons_zero, List.set_cons_succ]
      refine wpAnyH_take (i := 4) (oi := ⟨some 33, _, _, _, _, _⟩) (v := ?_) rfl (by kernel_rfl) (by decide +kernel) (by decide +kernel) (fun _ _ _ h => h) (Or.inl ⟨by rfl, ?_⟩) (by assumption) ?_
      rotate_left 1
      · (intro w' hSw; go_simp; try with_reducible rfl)
      try simp only [Act.put, List.setIfInBounds_toArray, List.set_cons_zero, List.set_cons_succ]
      refine wpAnyH_take (i := 5) (oi := ⟨some 38, _, _, _, _, _⟩) (v := ?_) rfl (by kernel_rfl) (by decide +kernel) (by decide +kernel) (fun _ _ _ h => h) (Or.inl ⟨by rfl, ?_⟩) (by assumption) ?_
      rotate_left 1
      · (intro w' hSw; go_simp; try with_reducible rfl)
      try simp only [Act.put, List.setIfInBounds_toArray, List.set_cons_zero, List.set_cons_succ]
      refine wpAnyH_take (i := 6) (oi := ⟨some 39, _, _, _, _, _⟩) (v := ?_) rfl (by kernel_rfl) (by decide +kernel) (by decide +kernel) (fun _ _ _ h => h) (Or.inl ⟨by rfl, ?_⟩) (by assumption) ?_
      rotate_left 1
      · (intro w' hSw; go_simp; try with_reducible rfl)
      try simp only [Act.put, List.setIfInBounds_toArray, List.set_cons_zero, List.set_cons_succ]
      refine wpAnyH_take (i := 7) (oi := ⟨some 40, _, _, _, _, _⟩) (v := ?_) rfl (by kernel_rfl) (by decide +kernel) (by decide +kernel) (fun _ _ _ h => h) (Or.inl ⟨by rfl, ?_⟩) (by assumption) ?_
      rotate_left 1
      · (intro w' hSw; go_simp; try with_reducible rfl)
      try simp only [Act.put, List.setIfInBounds_toArray, List.set_cons_zero, List.set_cons_succ]
      clear hHeld
      have hHeld := HSV1.out _ HB10.out
      refine wpAnyH_take (i := 9) (oi := ⟨some 8, _, _, _, _, _⟩) (v := ?_) rfl (by kernel_rfl) (by decide +kernel) (by decide +kernel) (fun _ _ _ h => h) (Or.inl ⟨by rfl, ?_⟩) (by assumption) ?_
      rotate_left 1
      · (intro w' hSw; go_simp; try with_reducible rfl)
      try simp only [Act.put, List.setIfInBounds_toArray, List.set_cons_zero, List.set_cons_succ]
      clear hHeld
      refine wpAnyH_ready (rs := [10]) (by decide +kernel) (by simp) ?_
      refine AllReadyH.cons rfl (fun K hK => ?_) AllReadyH.nil
      rw [if_pos (by kernel_rfl)]
      refine wp_store_row (o := ⟨none, .store _ (.tmp 9) _, _, _, _, _⟩) 41 _ _ rfl (ws101.heap.size) PRA rfl rfl 41 PZ (show (wt10).heap[ws101.heap.size]? = _ from HA10.out) SPA.out EPA.out OPA.out ?_
      refine hK.out _ _ (HSV1.out _ (ybelow_row HB10.out HGA8.out PRA)) (fun hHeld => ?_)
      clear hK K hHeld
      simp only [Act.put]
      have hHeld := HSV1.out _ (ybelow_row HB10.out HGA8.out PRA)
      refine wpAnyH_take (i := 11) (oi := ⟨some 10, _, _, _, _, _⟩) (v := ?_) rfl (by kernel_rfl) (by decide +kernel) (by decide +kernel) (fun _ _ _ h => h) (Or.inl ⟨by rfl, ?_⟩) (by assumption) ?_
      rotate_left 1
      · (intro w' hSw; go_simp; try with_reducible rfl)
      try simp only [Act.put, List.setIfInBounds_toArray, List.set_cons_zero, List.set_cons_succ]
      clear hHeld
      refine wpAnyH_done (by decide +kernel) ?_ _
      refine NoPanic.normal ?_
      go_wp2_with fail
      go_meet
      exact ⟨gc10, ws101.heap.size, rfl, rfl, rfl, ⟨ybelow_row HB10.out HGA8.out PRA, (setRow_other _ _ _ _ HEAC10.out).trans HC10.out, by rw [HPR.out]; exact setRow_heap _ _ _ _ _ _ HA10.out, HEAC10.out, HGC10.out, HGA8.out⟩⟩
  case rest =>
    obtain ⟨c1, q1, rfl, rfl, rfl, hsd⟩ := hcut
    obtain ⟨wc1, hwc⟩ : ∃ z : World, z = wc := ⟨_, rfl⟩
    subst hwc
    have HSD := Lib.hid hsd
    clear hsd HSV1 HBK1 HSE1 HPR
    have RC1 := Lib.hid (show wc1.heap[c1]? = some (.cells (yvs SA) 5 (0, 0)) from HSD.out.cy)
    have RQ1 := Lib.hid (show wc1.heap[q1]? = some (.cells PRA 41 (0, 0)) by rw [← HPRA.out]; exact HSD.out.qy)
    have RK103 := Lib.hid ((HSD.out.bel.block _ (lt_of_block RNK.out)).trans RNK.out)
    have HB103 := Lib.hid (HB102.out.trans (HSD.out.bel.mono HB102.out.size))
    clear RNK HB102 HSD
    go_upto_region 7 with fail
    have HSV2 := Lib.hid (show ∀ W, Below wc1.heap.size wc1 W → W.rangeAt BK 0 KM.toList from fun W hW => range_of_row (by rw [Array.toArray_toList]; exact (hW.block _ (lt_of_block RK103.out)).trans RK103.out))
    have HBK2 := Lib.hid (fun (W : World) (hW : Below wc1.heap.size wc1 W) => (HBLK.out W (HB103.out.trans (hW.mono HB103.out.size))).2)
    have HSE2 := Lib.hid (fun (W : World) (g : Nat) (hW : Below wc1.heap.size wc1 W) => HSEB.out W g (HB103.out.trans (hW.mono HB103.out.size)))
    have HPR := HPRB
    go_cut [11, 12, 13] from 14 (fun va vb vc wc2 => ∃ c q, va = .slice (some ⟨c, 0, none⟩) 512 512 ∧ vb = .pointer (some ⟨q, 0, none⟩) ∧ vc = .int .i64 0 ∧ SD wc1 wc2 c q SB PTB)
    case first =>
      try simp only [Act.put]
      refine wp_region_noPanic ?_
      refine wp_region_held_drew (S := fun W => W.rangeAt BK 0 KM.toList) (by kernel_rfl) (HSV2.out _ (Below.refl _ wc1).drew) (fun hHeld => ?_)
      refine wpAnyH_take (i := 0) (oi := ⟨some 42, _, _, _, _, _⟩) rfl (by kernel_rfl) (by decide +kernel) (by decide +kernel) (fun _ _ _ h => h) (yieldsIf_load_mid (by rfl) _ _ rfl (BK) (0) rfl KM.toList _ (fun w' h => h) Tryd.underlying28 rfl IK.out) (by assumption) ?_
      try simp only [Act.put, List.setIfInBounds_toArray, List.set_cons_zero, List.set_cons_succ, Array.toArray_toList]
      refine wpAnyH_take (i := 1) (oi := ⟨some 43, _, _, _, _, _⟩) (v := ?_) rfl (by kernel_rfl) (by decide +kernel) (by decide +kernel) (fun _ _ _ h => h) (Or.inl ⟨by rfl, ?_⟩) (by assumption) ?_
      rotate_left 1
      · (intro w' hSw; go_simp; try with_reducible rfl)
      try simp only [Act.put, List.setIfInBounds_toArray, List.set_cons_zero, List.set_cons_succ]
      clear hHeld
      have HB0 := Lib.hid (Below.refl wc1.heap.size wc1).drew
      refine wpAnyH_ready (rs := [2, 8]) (by decide +kernel) (by simp) ?_
      refine AllReadyH.cons rfl (fun K hK => ?_) (AllReadyH.cons rfl (fun K hK => ?_) AllReadyH.nil)
      · go_simp
        go_at_call 22
        refine (HBK2.out _ HB0.out).mono ?_
        rintro e wt1 ⟨rfl, hA, hst⟩
        have HB1 := Lib.hid (HB0.out.trans (hst.mono HB0.out.size))
        have HK1 := Lib.hid hA
        clear hA hst
        go_wp2_with fail
        refine hK.out _ _ (HSV2.out _ HB1.out) (fun hHeld => ?_)
        clear hK K hHeld
        try simp only [Act.put, List.setIfInBounds_toArray, List.set_cons_zero, List.set_cons_succ]
        refine wpAnyH_ready (rs := [3, 8]) (by decide +kernel) (by simp) ?_
        refine AllReadyH.cons rfl (fun K hK => ?_) (AllReadyH.cons rfl (fun K hK => ?_) AllReadyH.nil)
        · go_simp
          go_at_call 14
          refine (HSE2.out _ _ HB1.out HK1.out).mono ?_
          intro e wt2 hso
          unfold SealOf at hso
          rw [HPR.out] at hso
          obtain ⟨gc2, hgc, rfl, hA, hst⟩ := hso
          have HB2 := Lib.hid (HB1.out.trans (hst.mono HB1.out.size))
          have HC2 := Lib.hid hA
          have HGC2 := Lib.hid (Nat.le_trans HB1.out.size hgc)
          clear hA hst hgc
          go_wp2_with fail
          refine hK.out _ _ (HSV2.out _ HB2.out) (fun hHeld => ?_)
          clear hK K
          try simp only [Act.put, List.setIfInBounds_toArray, List.set_cons_zero, List.set_cons_succ]
          refine wpAnyH_take (i := 4) (oi := ⟨some 41, _, _, _, _, _⟩) (v := ?_) rfl (by kernel_rfl) (by decide +kernel) (by decide +kernel) (fun _ _ _ h => h) (Or.inl ⟨by rfl, ?_⟩) (by assumption) ?_
          rotate_left 1
          · (intro w' hSw; go_simp; try with_reducible rfl)
          try simp only [Act.put, List.setIfInBounds_toArray, List.set_cons_zero, List.set_cons_succ]
          refine wpAnyH_take (i := 5) (oi := ⟨some 46, _, _, _, _, _⟩) (v := ?_) rfl (by kernel_rfl) (by decide +kernel) (by decide +kernel) (fun _ _ _ h => h) (Or.inl ⟨by rfl, ?_⟩) (by assumption) ?_
          rotate_left 1
          · (intro w' hSw; go_simp; try with_reducible rfl)
          try simp only [Act.put, List.setIfInBounds_toArray, List.set_cons_zero, List.set_cons_succ]
          refine wpAnyH_take (i := 6) (oi := ⟨some 47, _, _, _, _, _⟩) (v := ?_) rfl (by kernel_rfl) (by decide +kernel) (by decide +kernel) (fun _ _ _ h => h) (Or.inl ⟨by rfl, ?_⟩) (by assumption) ?_
          rotate_left 1
          · (intro w' hSw; go_simp; try with_reducible rfl)
          try simp only [Act.put, List.setIfInBounds_toArray, List.set_cons_zero, List.set_cons_succ]
          refine wpAnyH_take (i := 7) (oi := ⟨some 48, _, _, _, _, _⟩) (v := ?_) rfl (by kernel_rfl) (by decide +kernel) (by decide +kernel) (fun _ _ _ h => h) (Or.inl ⟨by rfl, ?_⟩) (by assumption) ?_
          rotate_left 1
          · (intro w' hSw; go_simp; try with_reducible rfl)
          try simp only [Act.put, List.setIfInBounds_toArray, List.set_cons_zero, List.set_cons_succ]
          clear hHeld
          refine wpAnyH_ready (rs := [8]) (by decide +kernel) (by simp) ?_
          refine AllReadyH.cons rfl (fun K hK => ?_) AllReadyH.nil
          go_simp
          have hal := HB2.out.alloc HB2.out.size (.cells PZ 41)
          have hxl := heap_alloc_new (wt2) (.cells PZ 41)
          have hst := (Below.refl (wt2).heap.size (wt2)).alloc (Nat.le_refl _) (.cells PZ 41)
          refine hK.out _ _ (HSV2.out _ hal) (fun hHeld => ?_)
          clear hK K hHeld
          try simp only [Act.put, List.setIfInBounds_toArray, List.set_cons_zero, List.set_cons_succ]
          refine (show ∀ wa3 : World, wa3 = (wt2).alloc (.cells PZ 41) → _ from ?_) _ rfl
          intro wa3 ew
          rw [← ew] at hal hxl hst
          have HC3 := Lib.hid ((hst.block _ (lt_of_block HC2.out)).trans HC2.out)
          have HA3 := Lib.hid (show wa3.heap[wt2.heap.size]? = _ from hxl)
          have HGA3 := Lib.hid (show wc1.heap.size ≤ wt2.heap.size from HB2.out.size)
          have HB3 := Lib.hid hal
          have HECA3 := Lib.hid (show gc2 ≠ wt2.heap.size from Nat.ne_of_lt (lt_of_block HC2.out))
          clear ew hal hxl hst
          have hHeld := HSV2.out _ HB3.out
          refine wpAnyH_take (i := 9) (oi := ⟨some 11, _, _, _, _, _⟩) (v := ?_) rfl (by kernel_rfl) (by decide +kernel) (by decide +kernel) (fun _ _ _ h => h) (Or.inl ⟨by rfl, ?_⟩) (by assumption) ?_
          rotate_left 1
          · (intro w' hSw; go_simp; try with_reducible rfl)
          try simp only [Act.put, List.setIfInBounds_toArray, List.set_cons_zero, List.set_cons_succ]
          clear hHeld
          refine wpAnyH_ready (rs := [10]) (by decide +kernel) (by simp) ?_
          refine AllReadyH.cons rfl (fun K hK => ?_) AllReadyH.nil
          rw [if_pos (by kernel_rfl)]
          refine wp_store_row (o := ⟨none, .store _ (.tmp 12) _, _, _, _, _⟩) 41 _ _ rfl (wt2.heap.size) PRB rfl rfl 41 PZ (show (wa3).heap[wt2.heap.size]? = _ from HA3.out) SPB.out EPB.out OPB.out ?_
          refine hK.out _ _ (HSV2.out _ (ybelow_row HB3.out HGA3.out PRB)) (fun hHeld => ?_)
          clear hK K hHeld
          simp only [Act.put]
          have hHeld := HSV2.out _ (ybelow_row HB3.out HGA3.out PRB)
          refine wpAnyH_take (i := 11) (oi := ⟨some 13, _, _, _, _, _⟩) (v := ?_) rfl (by kernel_rfl) (by decide +kernel) (by decide +kernel) (fun _ _ _ h => h) (Or.inl ⟨by rfl, ?_⟩) (by assumption) ?_
          rotate_left 1
          · (intro w' hSw; go_simp; try with_reducible rfl)
          try simp only [Act.put, List.setIfInBounds_toArray, List.set_cons_zero, List.set_cons_succ]
          clear hHeld
          refine wpAnyH_done (by decide +kernel) ?_ _
          refine NoPanic.normal ?_
          go_wp2_with fail
          go_meet
          exact ⟨gc2, wt2.heap.size, rfl, rfl, rfl, ⟨ybelow_row HB3.out HGA3.out PRB, (setRow_other _ _ _ _ HECA3.out).trans HC3.out, by rw [HPR.out]; exact setRow_heap _ _ _ _ _ _ HA3.out, HECA3.out, HGC2.out, HGA3.out⟩⟩
        · go_simp
          have hal := HB1.out.alloc HB1.out.size (.cells PZ 41)
          have hxl := heap_alloc_new (wt1) (.cells PZ 41)
          have hst := (Below.refl (wt1).heap.size (wt1)).alloc (Nat.le_refl _) (.cells PZ 41)
          refine hK.out _ _ (HSV2.out _ hal) (fun hHeld => ?_)
          clear hK K hHeld
          try simp only [Act.put, List.setIfInBounds_toArray, List.set_cons_zero, List.set_cons_succ]
          refine (show ∀ wa5 : World, wa5 = (wt1).alloc (.cells PZ 41) → _ from ?_) _ rfl
          intro wa5 ew
          rw [← ew] at hal hxl hst
          have HK5 := Lib.hid ((hst.block _ (lt_of_block HK1.out)).trans HK1.out)
          have HA5 := Lib.hid (show wa5.heap[wt1.heap.size]? = _ from hxl)
          have HGA5 := Lib.hid (show wc1.heap.size ≤ wt1.heap.size from HB1.out.size)
          have HB5 := Lib.hid hal
          have HEKA5 := Lib.hid (show wc1.heap.size ≠ wt1.heap.size from Nat.ne_of_lt (lt_of_block HK1.out))
          clear ew hal hxl hst
          refine wpAnyH_ready (rs := [3]) (by decide +kernel) (by simp) ?_
          refine AllReadyH.cons rfl (fun K hK => ?_) AllReadyH.nil
          go_simp
          go_at_call 14
          refine (HSE2.out _ _ HB5.out HK5.out).mono ?_
          intro e wt6 hso
          unfold SealOf at hso
          rw [HPR.out] at hso
          obtain ⟨gc6, hgc, rfl, hA, hst⟩ := hso
          have HEAC6 := Lib.hid (show gc6 ≠ wt1.heap.size from Ne.symm (Nat.ne_of_lt (Nat.lt_of_lt_of_le (lt_of_block HA5.out) hgc)))
          have HA6 := Lib.hid ((hst.block _ (lt_of_block HA5.out)).trans HA5.out)
          have HB6 := Lib.hid (HB5.out.trans (hst.mono HB5.out.size))
          have HC6 := Lib.hid hA
          have HGC6 := Lib.hid (Nat.le_trans HB5.out.size hgc)
          clear hA hst hgc
          go_wp2_with fail
          refine hK.out _ _ (HSV2.out _ HB6.out) (fun hHeld => ?_)
          clear hK K
          try simp only [Act.put, List.setIfInBounds_toArray, List.set_cons_zero, List.set_cons_succ]
          refine wpAnyH_take (i := 4) (oi := ⟨some 41, _, _, _, _, _⟩) (v := ?_) rfl (by kernel_rfl) (by decide +kernel) (by decide +kernel) (fun _ _ _ h => h) (Or.inl ⟨by rfl, ?_⟩) (by assumption) ?_
          rotate_left 1
          · (intro w' hSw; go_simp; try with_reducible rfl)
          try simp only [Act.put, List.setIfInBounds_toArray, List.set_cons_zero, List.set_cons_succ]
          refine wpAnyH_take (i := 5) (oi := ⟨some 46, _, _, _, _, _⟩) (v := ?_) rfl (by kernel_rfl) (by decide +kernel) (by decide +kernel) (fun _ _ _ h => h) (Or.inl ⟨by rfl, ?_⟩) (by assumption) ?_
          rotate_left 1
          · (intro w' hSw; go_simp; try with_reducible rfl)
          try simp only [Act.put, List.setIfInBounds_toArray, List.set_cons_zero, List.set_cons_succ]
          refine wpAnyH_take (i := 6) (oi := ⟨some 47, _, _, _, _, _⟩) (v := ?_) rfl (by kernel_rfl) (by decide +kernel) (by decide +kernel) (fun _ _ _ h => h) (Or.inl ⟨by rfl, ?_⟩) (by assumption) ?_
          rotate_left 1
          · (intro w' hSw; go_simp; try with_reducible rfl)
          try simp only [Act.put, List.setIfInBounds_toArray, List.set_cons_zero, List.set_cons_succ]
          refine wpAnyH_take (i := 7) (oi := ⟨some 48, _, _, _, _, _⟩) (v := ?_) rfl (by kernel_rfl) (by decide +kernel) (by decide +kernel) (fun _ _ _ h => h) (Or.inl ⟨by rfl, ?_⟩) (by assumption) ?_
          rotate_left 1
          · (intro w' hSw; go_simp; try with_reducible rfl)
          try simp only [Act.put, List.setIfInBounds_toArray, List.set_cons_zero, List.set_cons_succ]
          clear hHeld
          have hHeld := HSV2.out _ HB6.out
          refine wpAnyH_take (i := 9) (oi := ⟨some 11, _, _, _, _, _⟩) (v := ?_) rfl (by kernel_rfl) (by decide +kernel) (by decide +kernel) (fun _ _ _ h => h) (Or.inl ⟨by rfl, ?_⟩) (by assumption) ?_
          rotate_left 1
          · (intro w' hSw; go_simp; try with_reducible rfl)
          try simp only [Act.put, List.setIfInBounds_toArray, List.set_cons_zero, List.set_cons_succ]
          clear hHeld
          refine wpAnyH_ready (rs := [10]) (by decide +kernel) (by simp) ?_
          refine AllReadyH.cons rfl (fun K hK => ?_) AllReadyH.nil
          rw [if_pos (by kernel_rfl)]
          refine wp_store_row (o := ⟨none, .store _ (.tmp 12) _, _, _, _, _⟩) 41 _ _ rfl (wt1.heap.size) PRB rfl rfl 41 PZ (show (wt6).heap[wt1.heap.size]? = _ from HA6.out) SPB.out EPB.out OPB.out ?_
          refine hK.out _ _ (HSV2.out _ (ybelow_row HB6.out HGA5.out PRB)) (fun hHeld => ?_)
          clear hK K hHeld
          simp only [Act.put]
          have hHeld := HSV2.out _ (ybelow_row HB6.out HGA5.out PRB)
          refine wpAnyH_take (i := 11) (oi := ⟨some 13, _, _, _, _, _⟩) (v := ?_) rfl (by kernel_rfl) (by decide +kernel) (by decide +kernel) (fun _ _ _ h => h) (Or.inl ⟨by rfl, ?_⟩) (by assumption) ?_
          rotate_left 1
          · (intro w' hSw; go_simp; try with_reducible rfl)
          try simp only [Act.put, List.setIfInBounds_toArray, List.set_cons_zero, List.set_cons_succ]
          clear hHeld
          refine wpAnyH_done (by decide +kernel) ?_ _
          refine NoPanic.normal ?_
          go_wp2_with fail
          go_meet
          exact ⟨gc6, wt1.heap.size, rfl, rfl, rfl, ⟨ybelow_row HB6.out HGA5.out PRB, (setRow_other _ _ _ _ HEAC6.out).trans HC6.out, by rw [HPR.out]; exact setRow_heap _ _ _ _ _ _ HA6.out, HEAC6.out, HGC6.out, HGA5.out⟩⟩
      · go_simp
        have hal := HB0.out.alloc HB0.out.size (.cells PZ 41)
        have hxl := heap_alloc_new (wc1.drew) (.cells PZ 41)
        have hst := (Below.refl (wc1.drew).heap.size (wc1.drew)).alloc (Nat.le_refl _) (.cells PZ 41)
        refine hK.out _ _ (HSV2.out _ hal) (fun hHeld => ?_)
        clear hK K hHeld
        try simp only [Act.put, List.setIfInBounds_toArray, List.set_cons_zero, List.set_cons_succ]
        refine (show ∀ wa8 : World, wa8 = (wc1.drew).alloc (.cells PZ 41) → _ from ?_) _ rfl
        intro wa8 ew
        rw [← ew] at hal hxl hst
        have HA8 := Lib.hid (show wa8.heap[wc1.heap.size]? = _ from hxl)
        have HGA8 := Lib.hid (show wc1.heap.size ≤ wc1.heap.size from HB0.out.size)
        have HB8 := Lib.hid hal
        clear ew hal hxl hst
        refine wpAnyH_ready (rs := [2]) (by decide +kernel) (by simp) ?_
        refine AllReadyH.cons rfl (fun K hK => ?_) AllReadyH.nil
        go_simp
        go_at_call 22
        refine (HBK2.out _ HB8.out).mono ?_
        rintro e wt9 ⟨rfl, hA, hst⟩
        have HA9 := Lib.hid ((hst.block _ (lt_of_block HA8.out)).trans HA8.out)
        have HB9 := Lib.hid (HB8.out.trans (hst.mono HB8.out.size))
        have HK9 := Lib.hid hA
        clear hA hst
        go_wp2_with fail
        refine hK.out _ _ (HSV2.out _ HB9.out) (fun hHeld => ?_)
        clear hK K hHeld
        try simp only [Act.put, List.setIfInBounds_toArray, List.set_cons_zero, List.set_cons_succ]
        refine wpAnyH_ready (rs := [3]) (by decide +kernel) (by simp) ?_
        refine AllReadyH.cons rfl (fun K hK => ?_) AllReadyH.nil
        go_simp
        go_at_call 14
        refine (HSE2.out _ _ HB9.out HK9.out).mono ?_
        intro e wt10 hso
        unfold SealOf at hso
        rw [HPR.out] at hso
        obtain ⟨gc10, hgc, rfl, hA, hst⟩ := hso
        have HEAC10 := Lib.hid (show gc10 ≠ wc1.heap.size from Ne.symm (Nat.ne_of_lt (Nat.lt_of_lt_of_le (lt_of_block HA9.out) hgc)))
        have HA10 := Lib.hid ((hst.block _ (lt_of_block HA9.out)).trans HA9.out)
        have HB10 := Lib.hid (HB9.out.trans (hst.mono HB9.out.size))
        have HC10 := Lib.hid hA
        have HGC10 := Lib.hid (Nat.le_trans HB9.out.size hgc)
        clear hA hst hgc
        go_wp2_with fail
        refine hK.out _ _ (HSV2.out _ HB10.out) (fun hHeld => ?_)
        clear hK K
        try simp only [Act.put, List.setIfInBounds_toArray, List.set_cons_zero, List.set_cons_succ]
        refine wpAnyH_take (i := 4) (oi := ⟨some 41, _, _, _, _, _⟩) (v := ?_) rfl (by kernel_rfl) (by decide +kernel) (by decide +kernel) (fun _ _ _ h => h) (Or.inl ⟨by rfl, ?_⟩) (by assumption) ?_
        rotate_left 1
        · (intro w' hSw; go_simp; try with_reducible rfl)
        try simp only [Act.put, List.setIfInBounds_toArray, List.set_cons_zero, List.set_cons_succ]
        refine wpAnyH_take (i := 5) (oi := ⟨some 46, _, _, _, _, _⟩) (v := ?_) rfl (by kernel_rfl) (by decide +kernel) (by decide +kernel) (fun _ _ _ h => h) (Or.inl ⟨by rfl, ?_⟩) (by assumption) ?_
        rotate_left 1
        · (intro w' hSw; go_simp; try with_reducible rfl)
        try simp only [Act.put, List.setIfInBounds_toArray, List.set_cons_zero, List.set_cons_succ]
        refine wpAnyH_take (i := 6) (oi := ⟨some 47, _, _, _, _, _⟩) (v := ?_) rfl (by kernel_rfl) (by decide +kernel) (by decide +kernel) (fun _ _ _ h => h) (Or.inl ⟨by rfl, ?_⟩) (by assumption) ?_
        rotate_left 1
        · (intro w' hSw; go_simp; try with_reducible rfl)
        try simp only [Act.put, List.setIfInBounds_toArray, List.set_cons_zero, List.set_cons_succ]
        refine wpAnyH_take (i := 7) (oi := ⟨some 48, _, _, _, _, _⟩) (v := ?_) rfl (by kernel_rfl) (by decide +kernel) (by decide +kernel) (fun _ _ _ h => h) (Or.inl ⟨by rfl, ?_⟩) (by assumption) ?_
        rotate_left 1
        · (intro w' hSw; go_simp; try with_reducible rfl)
        try simp only [Act.put, List.setIfInBounds_toArray, List.set_cons_zero, List.set_cons_succ]
        clear hHeld
        have hHeld := HSV2.out _ HB10.out
        refine wpAnyH_take (i := 9) (oi := ⟨some 11, _, _, _, _, _⟩) (v := ?_) rfl (by kernel_rfl) (by decide +kernel) (by decide +kernel) (fun _ _ _ h => h) (Or.inl ⟨by rfl, ?_⟩) (by assumption) ?_
        rotate_left 1
        · (intro w' hSw; go_simp; try with_reducible rfl)
        try simp only [Act.put, List.setIfInBounds_toArray, List.set_cons_zero, List.set_cons_succ]
        clear hHeld
        refine wpAnyH_ready (rs := [10]) (by decide +kernel) (by simp) ?_
        refine AllReadyH.cons rfl (fun K hK => ?_) AllReadyH.nil
        rw [if_pos (by kernel_rfl)]
        refine wp_store_row (o := ⟨none, .store _ (.tmp 12) _, _, _, _, _⟩) 41 _ _ rfl (wc1.heap.size) PRB rfl rfl 41 PZ (show (wt10).heap[wc1.heap.size]? = _ from HA10.out) SPB.out EPB.out OPB.out ?_
        refine hK.out _ _ (HSV2.out _ (ybelow_row HB10.out HGA8.out PRB)) (fun hHeld => ?_)
        clear hK K hHeld
        simp only [Act.put]
        have hHeld := HSV2.out _ (ybelow_row HB10.out HGA8.out PRB)
        refine wpAnyH_take (i := 11) (oi := ⟨some 13, _, _, _, _, _⟩) (v := ?_) rfl (by kernel_rfl) (by decide +kernel) (by decide +kernel) (fun _ _ _ h => h) (Or.inl ⟨by rfl, ?_⟩) (by assumption) ?_
        rotate_left 1
        · (intro w' hSw; go_simp; try with_reducible rfl)
        try simp only [Act.put, List.setIfInBounds_toArray, List.set_cons_zero, List.set_cons_succ]
        clear hHeld
        refine wpAnyH_done (by decide +kernel) ?_ _
        refine NoPanic.normal ?_
        go_wp2_with fail
        go_meet
        exact ⟨gc10, wc1.heap.size, rfl, rfl, rfl, ⟨ybelow_row HB10.out HGA8.out PRB, (setRow_other _ _ _ _ HEAC10.out).trans HC10.out, by rw [HPR.out]; exact setRow_heap _ _ _ _ _ _ HA10.out, HEAC10.out, HGC10.out, HGA8.out⟩⟩
    case rest =>
      obtain ⟨c2, q2, rfl, rfl, rfl, hsd⟩ := hcut
      obtain ⟨wc2, hwc⟩ : ∃ z : World, z = wc := ⟨_, rfl⟩
      subst hwc
      have HSD := Lib.hid hsd
      clear hsd HSV2 HBK2 HSE2 HPR
      have RC2 := Lib.hid (show wc2.heap[c2]? = some (.cells (yvs SB) 5 (0, 0)) from HSD.out.cy)
      have RQ2 := Lib.hid (show wc2.heap[q2]? = some (.cells PRB 41 (0, 0)) by rw [← HPRB.out]; exact HSD.out.qy)
      have RK104 := Lib.hid ((HSD.out.bel.block _ (lt_of_block RK103.out)).trans RK103.out)
      have RC1104 := Lib.hid ((HSD.out.bel.block _ (lt_of_block RC1.out)).trans RC1.out)
      have RQ1104 := Lib.hid ((HSD.out.bel.block _ (lt_of_block RQ1.out)).trans RQ1.out)
      have HB104 := Lib.hid (HB103.out.trans (HSD.out.bel.mono HB103.out.size))
      clear RK103 RC1 RQ1 HB103 HSD
      go_upto_region 8 with fail
      have HSV3 := Lib.hid (show ∀ W, Below wc2.heap.size wc2 W → W.rangeAt BK 0 KM.toList from fun W hW => range_of_row (by rw [Array.toArray_toList]; exact (hW.block _ (lt_of_block RK104.out)).trans RK104.out))
      have HBK3 := Lib.hid (fun (W : World) (hW : Below wc2.heap.size wc2 W) => (HBLK.out W (HB104.out.trans (hW.mono HB104.out.size))).1)
      have HSE3 := Lib.hid (fun (W : World) (g : Nat) (hW : Below wc2.heap.size wc2 W) => HSEA.out W g (HB104.out.trans (hW.mono HB104.out.size)))
      have HPR := HPRA
      go_cut [14, 15, 16] from 17 (fun va vb vc wc3 => ∃ c q, va = .slice (some ⟨c, 0, none⟩) 512 512 ∧ vb = .pointer (some ⟨q, 0, none⟩) ∧ vc = .int .i64 0 ∧ SD wc2 wc3 c q SA PTA)
      case first =>
        try simp only [Act.put]
        refine wp_region_noPanic ?_
        refine wp_region_held_drew (S := fun W => W.rangeAt BK 0 KM.toList) (by kernel_rfl) (HSV3.out _ (Below.refl _ wc2).drew) (fun hHeld => ?_)
        refine wpAnyH_take (i := 0) (oi := ⟨some 50, _, _, _, _, _⟩) rfl (by kernel_rfl) (by decide +kernel) (by decide +kernel) (fun _ _ _ h => h) (yieldsIf_load_mid (by rfl) _ _ rfl (BK) (0) rfl KM.toList _ (fun w' h => h) Tryd.underlying28 rfl IK.out) (by assumption) ?_
        try simp only [Act.put, List.setIfInBounds_toArray, List.set_cons_zero, List.set_cons_succ, Array.toArray_toList]
        refine wpAnyH_take (i := 1) (oi := ⟨some 51, _, _, _, _, _⟩) (v := ?_) rfl (by kernel_rfl) (by decide +kernel) (by decide +kernel) (fun _ _ _ h => h) (Or.inl ⟨by rfl, ?_⟩) (by assumption) ?_
        rotate_left 1
        · (intro w' hSw; go_simp; try with_reducible rfl)
        try simp only [Act.put, List.setIfInBounds_toArray, List.set_cons_zero, List.set_cons_succ]
        clear hHeld
        have HB0 := Lib.hid (Below.refl wc2.heap.size wc2).drew
        refine wpAnyH_ready (rs := [2, 8]) (by decide +kernel) (by simp) ?_
        refine AllReadyH.cons rfl (fun K hK => ?_) (AllReadyH.cons rfl (fun K hK => ?_) AllReadyH.nil)
        · go_simp
          go_at_call 22
          refine (HBK3.out _ HB0.out).mono ?_
          rintro e wt1 ⟨rfl, hA, hst⟩
          have HB1 := Lib.hid (HB0.out.trans (hst.mono HB0.out.size))
          have HK1 := Lib.hid hA
          clear hA hst
          go_wp2_with fail
          refine hK.out _ _ (HSV3.out _ HB1.out) (fun hHeld => ?_)
          clear hK K hHeld
          try simp only [Act.put, List.setIfInBounds_toArray, List.set_cons_zero, List.set_cons_succ]
          refine wpAnyH_ready (rs := [3, 8]) (by decide +kernel) (by simp) ?_
          refine AllReadyH.cons rfl (fun K hK => ?_) (AllReadyH.cons rfl (fun K hK => ?_) AllReadyH.nil)
          · go_simp
            go_at_call 14
            refine (HSE3.out _ _ HB1.out HK1.out).mono ?_
            intro e wt2 hso
            unfold SealOf at hso
            rw [HPR.out] at hso
            obtain ⟨gc2, hgc, rfl, hA, hst⟩ := hso
            have HB2 := Lib.hid (HB1.out.trans (hst.mono HB1.out.size))
            have HC2 := Lib.hid hA
            have HGC2 := Lib.hid (Nat.le_trans HB1.out.size hgc)
            clear hA hst hgc
            go_wp2_with fail
            refine hK.out _ _ (HSV3.out _ HB2.out) (fun hHeld => ?_)
            clear hK K
            try simp only [Act.put, List.setIfInBounds_toArray, List.set_cons_zero, List.set_cons_succ]
            refine wpAnyH_take (i := 4) (oi := ⟨some 49, _, _, _, _, _⟩) (v := ?_) rfl (by kernel_rfl) (by decide +kernel) (by decide +kernel) (fun _ _ _ h => h) (Or.inl ⟨by rfl, ?_⟩) (by assumption) ?_
            rotate_left 1
            · (intro w' hSw; go_simp; try with_reducible rfl)
            try simp only [Act.put, List.setIfInBounds_toArray, List.set_cons_zero, List.set_cons_succ]
            refine wpAnyH_take (i := 5) (oi := ⟨some 54, _, _, _, _, _⟩) (v := ?_) rfl (by kernel_rfl) (by decide +kernel) (by decide +kernel) (fun _ _ _ h => h) (Or.inl ⟨by rfl, ?_⟩) (by assumption) ?_
            rotate_left 1
            · (intro w' hSw; go_simp; try with_reducible rfl)
            try simp only [Act.put, List.setIfInBounds_toArray, List.set_cons_zero, List.set_cons_succ]
            refine wpAnyH_take (i := 6) (oi := ⟨some 55, _, _, _, _, _⟩) (v := ?_) rfl (by kernel_rfl) (by decide +kernel) (by decide +kernel) (fun _ _ _ h => h) (Or.inl ⟨by rfl, ?_⟩) (by assumption) ?_
            rotate_left 1
            · (intro w' hSw; go_simp; try with_reducible rfl)
            try simp only [Act.put, List.setIfInBounds_toArray, List.set_cons_zero, List.set_cons_succ]
            refine wpAnyH_take (i := 7) (oi := ⟨some 56, _, _, _, _, _⟩) (v := ?_) rfl (by kernel_rfl) (by decide +kernel) (by decide +kernel) (fun _ _ _ h => h) (Or.inl ⟨by rfl, ?_⟩) (by assumption) ?_
            rotate_left 1
            · (intro w' hSw; go_simp; try with_reducible rfl)
            try simp only [Act.put, List.setIfInBounds_toArray, List.set_cons_zero, List.set_cons_succ]
            clear hHeld
            refine wpAnyH_ready (rs := [8]) (by decide +kernel) (by simp) ?_
            refine AllReadyH.cons rfl (fun K hK => ?_) AllReadyH.nil
            go_simp
            have hal := HB2.out.alloc HB2.out.size (.cells PZ 41)
            have hxl := heap_alloc_new (wt2) (.cells PZ 41)
            have hst := (Below.refl (wt2).heap.size (wt2)).alloc (Nat.le_refl _) (.cells PZ 41)
            refine hK.out _ _ (HSV3.out _ hal) (fun hHeld => ?_)
            clear hK K hHeld
            try simp only [Act.put, List.setIfInBounds_toArray, List.set_cons_zero, List.set_cons_succ]
            refine (show ∀ wa3 : World, wa3 = (wt2).alloc (.cells PZ 41) → _ from ?_) _ rfl
            intro wa3 ew
            rw [← ew] at hal hxl hst
            have HC3 := Lib.hid ((hst.block _ (lt_of_block HC2.out)).trans HC2.out)
            have HA3 := Lib.hid (show wa3.heap[wt2.heap.size]? = _ from hxl)
            have HGA3 := Lib.hid (show wc2.heap.size ≤ wt2.heap.size from HB2.out.size)
            have HB3 := Lib.hid hal
            have HECA3 := Lib.hid (show gc2 ≠ wt2.heap.size from Nat.ne_of_lt (lt_of_block HC2.out))
            clear ew hal hxl hst
            have hHeld := HSV3.out _ HB3.out
            refine wpAnyH_take (i := 9) (oi := ⟨some 14, _, _, _, _, _⟩) (v := ?_) rfl (by kernel_rfl) (by decide +kernel) (by decide +kernel) (fun _ _ _ h => h) (Or.inl ⟨by rfl, ?_⟩) (by assumption) ?_
            rotate_left 1
            · (intro w' hSw; go_simp; try with_reducible rfl)
            try simp only [Act.put, List.setIfInBounds_toArray, List.set_cons_zero, List.set_cons_succ]
            clear hHeld
            refine wpAnyH_ready (rs := [10]) (by decide +kernel) (by simp) ?_
            refine AllReadyH.cons rfl (fun K hK => ?_) AllReadyH.nil
            rw [if_pos (by kernel_rfl)]
            refine wp_store_row (o := ⟨none, .store _ (.tmp 15) _, _, _, _, _⟩) 41 _ _ rfl (wt2.heap.size) PRA rfl rfl 41 PZ (show (wa3).heap[wt2.heap.size]? = _ from HA3.out) SPA.out EPA.out OPA.out ?_
            refine hK.out _ _ (HSV3.out _ (ybelow_row HB3.out HGA3.out PRA)) (fun hHeld => ?_)
            clear hK K hHeld
            simp only [Act.put]
            have hHeld := HSV3.out _ (ybelow_row HB3.out HGA3.out PRA)
            refine wpAnyH_take (i := 11) (oi := ⟨some 16, _, _, _, _, _⟩) (v := ?_) rfl (by kernel_rfl) (by decide +kernel) (by decide +kernel) (fun _ _ _ h => h) (Or.inl ⟨by rfl, ?_⟩) (by assumption) ?_
            rotate_left 1
            · (intro w' hSw; go_simp; try with_reducible rfl)
            try simp only [Act.put, List.setIfInBounds_toArray, List.set_cons_zero, List.set_cons_succ]
            clear hHeld
            refine wpAnyH_done (by decide +kernel) ?_ _
            refine NoPanic.normal ?_
            go_wp2_with fail
            go_meet
            exact ⟨gc2, wt2.heap.size, rfl, rfl, rfl, ⟨ybelow_row HB3.out HGA3.out PRA, (setRow_other _ _ _ _ HECA3.out).trans HC3.out, by rw [HPR.out]; exact setRow_heap _ _ _ _ _ _ HA3.out, HECA3.out, HGC2.out, HGA3.out⟩⟩
          · go_simp
            have hal := HB1.out.alloc HB1.out.size (.cells PZ 41)
            have hxl := heap_alloc_new (wt1) (.cells PZ 41)
            have hst := (Below.refl (wt1).heap.size (wt1)).alloc (Nat.le_refl _) (.cells PZ 41)
            refine hK.out _ _ (HSV3.out _ hal) (fun hHeld => ?_)
            clear hK K hHeld
            try simp only [Act.put, List.setIfInBounds_toArray, List.set_cons_zero, List.set_cons_succ]
            refine (show ∀ wa5 : World, wa5 = (wt1).alloc (.cells PZ 41) → _ from ?_) _ rfl
            intro wa5 ew
            rw [← ew] at hal hxl hst
            have HK5 := Lib.hid ((hst.block _ (lt_of_block HK1.out)).trans HK1.out)
            have HA5 := Lib.hid (show wa5.heap[wt1.heap.size]? = _ from hxl)
            have HGA5 := Lib.hid (show wc2.heap.size ≤ wt1.heap.size from HB1.out.size)
            have HB5 := Lib.hid hal
            have HEKA5 := Lib.hid (show wc2.heap.size ≠ wt1.heap.size from Nat.ne_of_lt (lt_of_block HK1.out))
            clear ew hal hxl hst
            refine wpAnyH_ready (rs := [3]) (by decide +kernel) (by simp) ?_
            refine AllReadyH.cons rfl (fun K hK => ?_) AllReadyH.nil
            go_simp
            go_at_call 14
            refine (HSE3.out _ _ HB5.out HK5.out).mono ?_
            intro e wt6 hso
            unfold SealOf at hso
            rw [HPR.out] at hso
            obtain ⟨gc6, hgc, rfl, hA, hst⟩ := hso
            have HEAC6 := Lib.hid (show gc6 ≠ wt1.heap.size from Ne.symm (Nat.ne_of_lt (Nat.lt_of_lt_of_le (lt_of_block HA5.out) hgc)))
            have HA6 := Lib.hid ((hst.block _ (lt_of_block HA5.out)).trans HA5.out)
            have HB6 := Lib.hid (HB5.out.trans (hst.mono HB5.out.size))
            have HC6 := Lib.hid hA
            have HGC6 := Lib.hid (Nat.le_trans HB5.out.size hgc)
            clear hA hst hgc
            go_wp2_with fail
            refine hK.out _ _ (HSV3.out _ HB6.out) (fun hHeld => ?_)
            clear hK K
            try simp only [Act.put, List.setIfInBounds_toArray, List.set_cons_zero, List.set_cons_succ]
            refine wpAnyH_take (i := 4) (oi := ⟨some 49, _, _, _, _, _⟩) (v := ?_) rfl (by kernel_rfl) (by decide +kernel) (by decide +kernel) (fun _ _ _ h => h) (Or.inl ⟨by rfl, ?_⟩) (by assumption) ?_
            rotate_left 1
            · (intro w' hSw; go_simp; try with_reducible rfl)
            try simp only [Act.put, List.setIfInBounds_toArray, List.set_cons_zero, List.set_cons_succ]
            refine wpAnyH_take (i := 5) (oi := ⟨some 54, _, _, _, _, _⟩) (v := ?_) rfl (by kernel_rfl) (by decide +kernel) (by decide +kernel) (fun _ _ _ h => h) (Or.inl ⟨by rfl, ?_⟩) (by assumption) ?_
            rotate_left 1
            · (intro w' hSw; go_simp; try with_reducible rfl)
            try simp only [Act.put, List.setIfInBounds_toArray, List.set_cons_zero, List.set_cons_succ]
            refine wpAnyH_take (i := 6) (oi := ⟨some 55, _, _, _, _, _⟩) (v := ?_) rfl (by kernel_rfl) (by decide +kernel) (by decide +kernel) (fun _ _ _ h => h) (Or.inl ⟨by rfl, ?_⟩) (by assumption) ?_
            rotate_left 1
            · (intro w' hSw; go_simp; try with_reducible rfl)
            try simp only [Act.put, List.setIfInBounds_toArray, List.set_cons_zero, List.set_cons_succ]
            refine wpAnyH_take (i := 7) (oi := ⟨some 56, _, _, _, _, _⟩) (v := ?_) rfl (by kernel_rfl) (by decide +kernel) (by decide +kernel) (fun _ _ _ h => h) (Or.inl ⟨by rfl, ?_⟩) (by assumption) ?_
            rotate_left 1
            · (intro w' hSw; go_simp; try with_reducible rfl)
            try simp only [Act.put, List.setIfInBounds_toArray, List.set_cons_zero, List.set_cons_succ]
            clear hHeld
            have hHeld := HSV3.out _ HB6.out
            refine wpAnyH_take (i := 9) (oi := ⟨some 14, _, _, _, _, _⟩) (v := ?_) rfl (by kernel_rfl) (by decide +kernel) (by decide +kernel) (fun _ _ _ h => h) (Or.inl ⟨by rfl, ?_⟩) (by assumption) ?_
            rotate_left 1
            · (intro w' hSw; go_simp; try with_reducible rfl)
            try simp only [Act.put, List.setIfInBounds_toArray, List.set_cons_zero, List.set_cons_succ]
            clear hHeld
            refine wpAnyH_ready (rs := [10]) (by decide +kernel) (by simp) ?_
            refine AllReadyH.cons rfl (fun K hK => ?_) AllReadyH.nil
            rw [if_pos (by kernel_rfl)]
            refine wp_store_row (o := ⟨none, .store _ (.tmp 15) _, _, _, _, _⟩) 41 _ _ rfl (wt1.heap.size) PRA rfl rfl 41 PZ (show (wt6).heap[wt1.heap.size]? = _ from HA6.out) SPA.out EPA.out OPA.out ?_
            refine hK.out _ _ (HSV3.out _ (ybelow_row HB6.out HGA5.out PRA)) (fun hHeld => ?_)
            clear hK K hHeld
            simp only [Act.put]
            have hHeld := HSV3.out _ (ybelow_row HB6.out HGA5.out PRA)
            refine wpAnyH_take (i := 11) (oi := ⟨some 16, _, _, _, _, _⟩) (v := ?_) rfl (by kernel_rfl) (by decide +kernel) (by decide +kernel) (fun _ _ _ h => h) (Or.inl ⟨by rfl, ?_⟩) (by assumption) ?_
            rotate_left 1
            · (intro w' hSw; go_simp; try with_reducible rfl)
            try simp only [Act.put, List.setIfInBounds_toArray, List.set_cons_zero, List.set_cons_succ]
            clear hHeld
            refine wpAnyH_done (by decide +kernel) ?_ _
            refine NoPanic.normal ?_
            go_wp2_with fail
            go_meet
            exact ⟨gc6, wt1.heap.size, rfl, rfl, rfl, ⟨ybelow_row HB6.out HGA5.out PRA, (setRow_other _ _ _ _ HEAC6.out).trans HC6.out, by rw [HPR.out]; exact setRow_heap _ _ _ _ _ _ HA6.out, HEAC6.out, HGC6.out, HGA5.out⟩⟩
        · go_simp
          have hal := HB0.out.alloc HB0.out.size (.cells PZ 41)
          have hxl := heap_alloc_new (wc2.drew) (.cells PZ 41)
          have hst := (Below.refl (wc2.drew).heap.size (wc2.drew)).alloc (Nat.le_refl _) (.cells PZ 41)
          refine hK.out _ _ (HSV3.out _ hal) (fun hHeld => ?_)
          clear hK K hHeld
          try simp only [Act.put, List.setIfInBounds_toArray, List.set_cons_zero, List.set_cons_succ]
          refine (show ∀ wa8 : World, wa8 = (wc2.drew).alloc (.cells PZ 41) → _ from ?_) _ rfl
          intro wa8 ew
          rw [← ew] at hal hxl hst
          have HA8 := Lib.hid (show wa8.heap[wc2.heap.size]? = _ from hxl)
          have HGA8 := Lib.hid (show wc2.heap.size ≤ wc2.heap.size from HB0.out.size)
          have HB8 := Lib.hid hal
          clear ew hal hxl hst
          refine wpAnyH_ready (rs := [2]) (by decide +kernel) (by simp) ?_
          refine AllReadyH.cons rfl (fun K hK => ?_) AllReadyH.nil
          go_simp
          go_at_call 22
          refine (HBK3.out _ HB8.out).mono ?_
          rintro e wt9 ⟨rfl, hA, hst⟩
          have HA9 := Lib.hid ((hst.block _ (lt_of_block HA8.out)).trans HA8.out)
          have HB9 := Lib.hid (HB8.out.trans (hst.mono HB8.out.size))
          have HK9 := Lib.hid hA
          clear hA hst
          go_wp2_with fail
          refine hK.out _ _ (HSV3.out _ HB9.out) (fun hHeld => ?_)
          clear hK K hHeld
          try simp only [Act.put, List.setIfInBounds_toArray, List.set_cons_zero, List.set_cons_succ]
          refine wpAnyH_ready (rs := [3]) (by decide +kernel) (by simp) ?_
          refine AllReadyH.cons rfl (fun K hK => ?_) AllReadyH.nil
          go_simp
          go_at_call 14
          refine (HSE3.out _ _ HB9.out HK9.out).mono ?_
          intro e wt10 hso
          unfold SealOf at hso
          rw [HPR.out] at hso
          obtain ⟨gc10, hgc, rfl, hA, hst⟩ := hso
          have HEAC10 := Lib.hid (show gc10 ≠ wc2.heap.size from Ne.symm (Nat.ne_of_lt (Nat.lt_of_lt_of_le (lt_of_block HA9.out) hgc)))
          have HA10 := Lib.hid ((hst.block _ (lt_of_block HA9.out)).trans HA9.out)
          have HB10 := Lib.hid (HB9.out.trans (hst.mono HB9.out.size))
          have HC10 := Lib.hid hA
          have HGC10 := Lib.hid (Nat.le_trans HB9.out.size hgc)
          clear hA hst hgc
          go_wp2_with fail
          refine hK.out _ _ (HSV3.out _ HB10.out) (fun hHeld => ?_)
          clear hK K
          try simp only [Act.put, List.setIfInBounds_toArray, List.set_cons_zero, List.set_cons_succ]
          refine wpAnyH_take (i := 4) (oi := ⟨some 49, _, _, _, _, _⟩) (v := ?_) rfl (by kernel_rfl) (by decide +kernel) (by decide +kernel) (fun _ _ _ h => h) (Or.inl ⟨by rfl, ?_⟩) (by assumption) ?_
          rotate_left 1
          · (intro w' hSw; go_simp; try with_reducible rfl)
          try simp only [Act.put, List.setIfInBounds_toArray, List.set_cons_zero, List.set_cons_succ]
          refine wpAnyH_take (i := 5) (oi := ⟨some 54, _, _, _, _, _⟩) (v := ?_) rfl (by kernel_rfl) (by decide +kernel) (by decide +kernel) (fun _ _ _ h => h) (Or.inl ⟨by rfl, ?_⟩) (by assumption) ?_
          rotate_left 1
          · (intro w' hSw; go_simp; try with_reducible rfl)
          try simp only [Act.put, List.setIfInBounds_toArray, List.set_cons_zero, List.set_cons_succ]
          refine wpAnyH_take (i := 6) (oi := ⟨some 55, _, _, _, _, _⟩) (v := ?_) rfl (by kernel_rfl) (by decide +kernel) (by decide +kernel) (fun _ _ _ h => h) (Or.inl ⟨by rfl, ?_⟩) (by assumption) ?_
          rotate_left 1
          · (intro w' hSw; go_simp; try with_reducible rfl)
          try simp only [Act.put, List.setIfInBounds_toArray, List.set_cons_zero, List.set_cons_succ]
          refine wpAnyH_take (i := 7) (oi := ⟨some 56, _, _, _, _, _⟩) (v := ?_) rfl (by kernel_rfl) (by decide +kernel) (by decide +kernel) (fun _ _ _ h => h) (Or.inl ⟨by rfl, ?_⟩) (by assumption) ?_
          rotate_left 1
          · (intro w' hSw; go_simp; try with_reducible rfl)
          try simp only [Act.put, List.setIfInBounds_toArray, List.set_cons_zero, List.set_cons_succ]
          clear hHeld
          have hHeld := HSV3.out _ HB10.out
          refine wpAnyH_take (i := 9) (oi := ⟨some 14, _, _, _, _, _⟩) (v := ?_) rfl (by kernel_rfl) (by decide +kernel) (by decide +kernel) (fun _ _ _ h => h) (Or.inl ⟨by rfl, ?_⟩) (by assumption) ?_
          rotate_left 1
          · (intro w' hSw; go_simp; try with_reducible rfl)
          try simp only [Act.put, List.setIfInBounds_toArray, List.set_cons_zero, List.set_cons_succ]
          clear hHeld
          refine wpAnyH_ready (rs := [10]) (by decide +kernel) (by simp) ?_
          refine AllReadyH.cons rfl (fun K hK => ?_) AllReadyH.nil
          rw [if_pos (by kernel_rfl)]
          refine wp_store_row (o := ⟨none, .store _ (.tmp 15) _, _, _, _, _⟩) 41 _ _ rfl (wc2.heap.size) PRA rfl rfl 41 PZ (show (wt10).heap[wc2.heap.size]? = _ from HA10.out) SPA.out EPA.out OPA.out ?_
          refine hK.out _ _ (HSV3.out _ (ybelow_row HB10.out HGA8.out PRA)) (fun hHeld => ?_)
          clear hK K hHeld
          simp only [Act.put]
          have hHeld := HSV3.out _ (ybelow_row HB10.out HGA8.out PRA)
          refine wpAnyH_take (i := 11) (oi := ⟨some 16, _, _, _, _, _⟩) (v := ?_) rfl (by kernel_rfl) (by decide +kernel) (by decide +kernel) (fun _ _ _ h => h) (Or.inl ⟨by rfl, ?_⟩) (by assumption) ?_
          rotate_left 1
          · (intro w' hSw; go_simp; try with_reducible rfl)
          try simp only [Act.put, List.setIfInBounds_toArray, List.set_cons_zero, List.set_cons_succ]
          clear hHeld
          refine wpAnyH_done (by decide +kernel) ?_ _
          refine NoPanic.normal ?_
          go_wp2_with fail
          go_meet
          exact ⟨gc10, wc2.heap.size, rfl, rfl, rfl, ⟨ybelow_row HB10.out HGA8.out PRA, (setRow_other _ _ _ _ HEAC10.out).trans HC10.out, by rw [HPR.out]; exact setRow_heap _ _ _ _ _ _ HA10.out, HEAC10.out, HGC10.out, HGA8.out⟩⟩
      case rest =>
        obtain ⟨c3, q3, rfl, rfl, rfl, hsd⟩ := hcut
        obtain ⟨wc3, hwc⟩ : ∃ z : World, z = wc := ⟨_, rfl⟩
        subst hwc
        have HSD := Lib.hid hsd
        clear hsd HSV3 HBK3 HSE3 HPR
        have RC3 := Lib.hid (show wc3.heap[c3]? = some (.cells (yvs SA) 5 (0, 0)) from HSD.out.cy)
        have RQ3 := Lib.hid (show wc3.heap[q3]? = some (.cells PRA 41 (0, 0)) by rw [← HPRA.out]; exact HSD.out.qy)
        have RK105 := Lib.hid ((HSD.out.bel.block _ (lt_of_block RK104.out)).trans RK104.out)
        have RC1105 := Lib.hid ((HSD.out.bel.block _ (lt_of_block RC1104.out)).trans RC1104.out)
        have RQ1105 := Lib.hid ((HSD.out.bel.block _ (lt_of_block RQ1104.out)).trans RQ1104.out)
        have RC2105 := Lib.hid ((HSD.out.bel.block _ (lt_of_block RC2.out)).trans RC2.out)
        have RQ2105 := Lib.hid ((HSD.out.bel.block _ (lt_of_block RQ2.out)).trans RQ2.out)
        have HB105 := Lib.hid (HB104.out.trans (HSD.out.bel.mono HB104.out.size))
        clear RK104 RC1104 RQ1104 RC2 RQ2 HB104 HSD
        clear HSEA HSEB HBLK hz SO
        have HPQ2 := HPQ.out
        simp only [decide_true] at HPQ2
        have HSM := Lib.hid (same_eq wc3 _ _ _ (BS.of_arr0 (n := 512) (cap := 512) (show ArrY wc3 c1 5 SA from RC1105.out) HSLA.out) (BS.of_arr0 (n := 512) (cap := 512) (show ArrY wc3 c3 5 SA from RC3.out) HSLA.out))
        go_wp2_with (first
          | (with_reducible refine wpList_load_guarded (o := ⟨some 68, _, _, _, _, _⟩) (by kernel_rfl) 41 _ rfl q1 rfl 41 PRA (0, 0) _ RQ1105.out Tryd.underlying41 rfl SPA.out ?_)
          | (with_reducible refine wpList_load_guarded (o := ⟨some 69, _, _, _, _, _⟩) (by kernel_rfl) 41 _ rfl q3 rfl 41 PRA (0, 0) _ RQ3.out Tryd.underlying41 rfl SPA.out ?_))
        refine HSM.out.mono ?_
        rintro e wx ⟨rfl, hwx⟩
        rw [hwx]
        clear hwx
        clear HPQ HPQ2 HSM
        go_wp2_with (first
          | (with_reducible refine wpList_load_row (o := ⟨some 79, _, _, _, _, _⟩) rfl 28 _ rfl BK rfl 28 KM (0, 0) _ RK105.out Tryd.underlying28 rfl SK.out ?_)
          | (with_reducible refine wpList_load_row (o := ⟨some 80, _, _, _, _, _⟩) rfl 41 _ rfl q2 rfl 41 PRB (0, 0) _ RQ2105.out Tryd.underlying41 rfl SPB.out ?_))
        refine (HOA.out _ c1 HB105.out (show ArrY wc3 c1 5 SA from RC1105.out)).mono ?_
        rintro e w9 ⟨x9, y9, z9, rfl, hb⟩
        have RK106 := Lib.hid ((hb.block _ (lt_of_block RK105.out)).trans RK105.out)
        have RC1106 := Lib.hid ((hb.block _ (lt_of_block RC1105.out)).trans RC1105.out)
        have RQ1106 := Lib.hid ((hb.block _ (lt_of_block RQ1105.out)).trans RQ1105.out)
        have RC2106 := Lib.hid ((hb.block _ (lt_of_block RC2105.out)).trans RC2105.out)
        have RQ2106 := Lib.hid ((hb.block _ (lt_of_block RQ2105.out)).trans RQ2105.out)
        have RC3106 := Lib.hid ((hb.block _ (lt_of_block RC3.out)).trans RC3.out)
        have RQ3106 := Lib.hid ((hb.block _ (lt_of_block RQ3.out)).trans RQ3.out)
        have HB106 := Lib.hid (HB105.out.trans (hb.mono HB105.out.size))
        clear RK105 RC1105 RQ1105 RC2105 RQ2105 RC3 RQ3 HB105
        clear hb
        obtain ⟨EH, hEH⟩ : ∃ z : Int, (if HA = HB then (0 : Int) else 5) = z := ⟨_, rfl⟩
        have hEH2 : (if HB = HA then (0 : Int) else 5) = EH := by rw [← hEH]; by_cases h : HA = HB <;> simp [h, eq_comm]
        try rw [hEH]
        rw [hEH2] at HOB
        have HEH := Lib.hid hEH
        clear hEH hEH2
        go_wp2_with (first
          | (with_reducible refine wpList_load_row (o := ⟨some 86, _, _, _, _, _⟩) rfl 28 _ rfl BK rfl 28 KM (0, 0) _ RK106.out Tryd.underlying28 rfl SK.out ?_)
          | (with_reducible refine wpList_load_row (o := ⟨some 87, _, _, _, _, _⟩) rfl 41 _ rfl q1 rfl 41 PRA (0, 0) _ RQ1106.out Tryd.underlying41 rfl SPA.out ?_))
        refine (HOB.out _ c2 HB106.out (show ArrY w9 c2 5 SB from RC2106.out)).mono ?_
        rintro e w10 ⟨x10, y10, z10, rfl, hb⟩
        have RK107 := Lib.hid ((hb.block _ (lt_of_block RK106.out)).trans RK106.out)
        have RC1107 := Lib.hid ((hb.block _ (lt_of_block RC1106.out)).trans RC1106.out)
        have RQ1107 := Lib.hid ((hb.block _ (lt_of_block RQ1106.out)).trans RQ1106.out)
        have RC2107 := Lib.hid ((hb.block _ (lt_of_block RC2106.out)).trans RC2106.out)
        have RQ2107 := Lib.hid ((hb.block _ (lt_of_block RQ2106.out)).trans RQ2106.out)
        have RC3107 := Lib.hid ((hb.block _ (lt_of_block RC3106.out)).trans RC3106.out)
        have RQ3107 := Lib.hid ((hb.block _ (lt_of_block RQ3106.out)).trans RQ3106.out)
        have HB107 := Lib.hid (HB106.out.trans (hb.mono HB106.out.size))
        clear RK106 RC1106 RQ1106 RC2106 RQ2106 RC3106 RQ3106 HB106
        clear hb
        have HSN := Lib.hid (same_any w10 _ _ _ _ (BS.of_arr0 (n := 512) (cap := 512) (show ArrY w10 c1 5 SA from RC1107.out) HSLA.out) (BS.of_arr0 (n := 512) (cap := 512) (show ArrY w10 c2 5 SB from RC2107.out) HSLB.out))
        go_wp2_with fail
        refine HSN.out.mono ?_
        rintro e wy ⟨rfl, hwy⟩
        rw [hwy]
        clear hwy
        clear HSN
        by_cases hsame : SA = SB
        · have hd : decide (SA.map yv = SB.map yv) = true := decide_eq_true (by rw [hsame])
          have he0 : EH = 0 := by rw [← HEH.out, if_pos (HDE.out hsame)]
          rw [hd]
          subst he0
          clear hd hsame
          go_wp2_with fail
          go_ret
          exact ⟨rfl, HB107.out⟩
        · have hd : decide (SA.map yv = SB.map yv) = false := decide_eq_false (fun h => hsame (yvs_inj.1 h))
          rw [hd]
          clear hd hsame
          by_cases hhh : HA = HB
          · have he0 : EH = 0 := by rw [← HEH.out, if_pos hhh]
            subst he0
            have hsa := HSU.out w10 SA c1 HB107.out (show ArrY w10 c1 5 SA from RC1107.out) HSLA.out
            rw [HHA.out] at hsa
            have HSUA := Lib.hid hsa
            clear hsa HHA
            have hq := HEQ.out
            subst hhh
            simp only [decide_true] at hq
            go_wp2_with fail
            refine (HSUA.out).mono ?_
            rintro e w11 ⟨rfl, hb⟩
            have RK108 := Lib.hid ((hb.block _ (lt_of_block RK107.out)).trans RK107.out)
            have RC1108 := Lib.hid ((hb.block _ (lt_of_block RC1107.out)).trans RC1107.out)
            have RQ1108 := Lib.hid ((hb.block _ (lt_of_block RQ1107.out)).trans RQ1107.out)
            have RC2108 := Lib.hid ((hb.block _ (lt_of_block RC2107.out)).trans RC2107.out)
            have RQ2108 := Lib.hid ((hb.block _ (lt_of_block RQ2107.out)).trans RQ2107.out)
            have RC3108 := Lib.hid ((hb.block _ (lt_of_block RC3107.out)).trans RC3107.out)
            have RQ3108 := Lib.hid ((hb.block _ (lt_of_block RQ3107.out)).trans RQ3107.out)
            have HB108 := Lib.hid (HB107.out.trans (hb.mono HB107.out.size))
            clear RK107 RC1107 RQ1107 RC2107 RQ2107 RC3107 RQ3107 HB107
            clear hb
            have hsb := HSU.out w11 SB c2 HB108.out (show ArrY w11 c2 5 SB from RC2108.out) HSLB.out
            rw [HHB.out] at hsb
            have HSUB := Lib.hid hsb
            clear hsb HHB
            go_wp2_with fail
            refine (HSUB.out).mono ?_
            rintro e w12 ⟨rfl, hb⟩
            have RK109 := Lib.hid ((hb.block _ (lt_of_block RK108.out)).trans RK108.out)
            have RC1109 := Lib.hid ((hb.block _ (lt_of_block RC1108.out)).trans RC1108.out)
            have RQ1109 := Lib.hid ((hb.block _ (lt_of_block RQ1108.out)).trans RQ1108.out)
            have RC2109 := Lib.hid ((hb.block _ (lt_of_block RC2108.out)).trans RC2108.out)
            have RQ2109 := Lib.hid ((hb.block _ (lt_of_block RQ2108.out)).trans RQ2108.out)
            have RC3109 := Lib.hid ((hb.block _ (lt_of_block RC3108.out)).trans RC3108.out)
            have RQ3109 := Lib.hid ((hb.block _ (lt_of_block RQ3108.out)).trans RQ3108.out)
            have HB109 := Lib.hid (HB108.out.trans (hb.mono HB108.out.size))
            clear RK108 RC1108 RQ1108 RC2108 RQ2108 RC3108 RQ3108 HB108
            clear hb
            go_wp2_with fail
            go_ret
            exact ⟨by simp, HB109.out⟩
          · have he0 : EH = 5 := by rw [← HEH.out, if_neg hhh]
            subst he0
            clear hhh
            go_wp2_with fail
            go_ret
            exact ⟨by simp, HB107.out⟩
set_option maxRecDepth 100000 in
theorem lifted (os : Os) (started : os.Started) (H : Type) (enc : TypeId × Value → H) :
    ReturnsInHanded {} Tryd.checked os 9 .any (fun w args => (Rows.sealOthersSpec.pre enc Tryd.prog Tryd.f9 [] false w args ∧ laidMetH Tryd.prog [("banyan/sha.roundNumbers", Rows.laid_banyan_sha_roundNumbers)] w) ∧ sizedMet enc Tryd.prog Tryd.f9 (OpenSpec.ofChange Rows.sealOthersSpec) false w args)
      (Rows.sealOthersSpec.post enc Tryd.prog Tryd.f9 false true false false) := by
  refine returnsInHanded_of_change_and (C := Tryd.checked) (X := fun w _ => laidMetH Tryd.prog [("banyan/sha.roundNumbers", Rows.laid_banyan_sha_roundNumbers)] w) (fun _ _ _ hh h => h.of_heap hh) own2 started (by kernel_rfl) Tryd.func9
    (ChangeSpec.witness_shaped (enc := enc) (C := Tryd.checked) (os := os) (X := fun w _ => laidMetH Tryd.prog [("banyan/sha.roundNumbers", Rows.laid_banyan_sha_roundNumbers)] w) false (World.doorLaid Tryd.prog 400 os) #[.agg (Array.replicate 32 (.int .u8 0)), .slice none 0 0, .slice none 0 0] 8 rfl (World.shaped_of_RefB (by kernel_rfl) (by kernel_rfl)) (by kernel_rfl) (by kernel_rfl) (by kernel_rfl) (door_met os _)) ?_
  intro W base args ds gs before hval0 hW _ hsz0 hL _
  have hval : ∀ (j : Nat) t v, Tryd.f9.params[j]? = some t → args[j]? = some v → Value.okWide Tryd.prog W .any base t v := hval0
  have hsz : (DataW.weightsEach Tryd.prog (Tryd.f9.params.toList ++ Rows.sealOthersSpec.plain.varTypes Tryd.prog) (ds ++ gs)).all (· ≤ reachBytes) = true := hsz0
  clear hsz0
  have hW' := hW
  obtain ⟨p, q, hA0, hV, rfl, hfz, hnd⟩ := hW
  have hA : DataW.TrodAll enc Tryd.prog W 0 (fun _ => true) true Tryd.f9.params.toList args.toList ds p := hA0
  rw [Tryd.params9] at hA hval hsz
  obtain ⟨v0, vs0, d0, ds0, p0, q0, hargs, rfl, rfl, h0, r0⟩ := trodAll_cons hA
  obtain ⟨v1, vs1, d1, ds1, p1, q1, rfl, rfl, rfl, h1, r1⟩ := trodAll_cons r0
  obtain ⟨v2, vs2, d2, ds2, p2, q2, rfl, rfl, rfl, h2, r2⟩ := trodAll_cons r1
  obtain ⟨rfl, rfl, rfl⟩ := trodAll_nil r2
  obtain rfl : args = #[v0, v1, v2] := by cases args; simp_all
  obtain ⟨rfl, rfl⟩ := trodVars_none hV
  have k0 := h0
  have lt0 : ∀ x ∈ p0, x.block < W.heap.size := by obtain ⟨m, hm⟩ := k0; exact DataW.trod_lt m _ _ _ hm
  have k1 := h1
  have lt1 : ∀ x ∈ p1, x.block < W.heap.size := by obtain ⟨m, hm⟩ := k1; exact DataW.trod_lt m _ _ _ hm
  have k2 := h2
  have lt2 : ∀ x ∈ p2, x.block < W.heap.size := by obtain ⟨m, hm⟩ := k2; exact DataW.trod_lt m _ _ _ hm
  obtain ⟨x0, rfl, hx0, hy0⟩ := open_row Tryd.underlying24 (by kernel_rfl) (by decide) h0
  obtain ⟨a1, len1, cap1, x1, rfl, e1, m1, n1, b1⟩ := par_bytes (j := 1) (hval 1 22 v1 rfl rfl) h1 hsz rfl rfl
  obtain ⟨a2, len2, cap2, x2, rfl, e2, m2, n2, b2⟩ := par_bytes (j := 2) (hval 2 22 v2 rfl rfl) h2 hsz rfl rfl
  have hK := of_laid hL
  clear hA0 hval0
  refine (walk W x0 hx0 hy0 a1 len1 cap1 x1 e1 m1 n1 b1 a2 len2 cap2 x2 e2 m2 n2 b2 hK).mono fun e W' ⟨he, bel⟩ => ?_
  subst he
  exact ⟨_, rfl, _, _, _, [], _, [], hW', trodAll_mk1 (shut_bool Tryd.underlying4 _), (trodAll_cons_mk (Below.trod laidOut2 (by kernel_rfl) (of_decide_eq_true (by kernel_rfl)) k0 bel lt0) (trodAll_cons_mk (Below.trod laidOut2 (by kernel_rfl) (of_decide_eq_true (by kernel_rfl)) k1 bel lt1) (trodAll_cons_mk (Below.trod laidOut2 (by kernel_rfl) (of_decide_eq_true (by kernel_rfl)) k2 bel lt2) trodAll_mk0))), rfl, bel.frame _, fun h => by cases h⟩

theorem over : Rows.SealOthersSaid :=
  OpenClaim.holds_of_wide 9 Tryd.f9 rfl rfl rfl rfl rfl rfl rfl ⟨rfl, rfl, rfl, rfl, rfl⟩ rfl rfl rfl rfl rfl (by kernel_rfl) Tryd.func9 (by kernel_rfl)
    (of_decide_eq_true (by kernel_rfl)) (by unfold Func.isWrapper; first | (rw [if_pos (by decide +kernel)]; kernel_rfl) | (rw [if_neg (by decide +kernel)]; exact ⟨rfl, rfl⟩))
    (fun os started H enc _ => lifted os started H enc)

/-- The statement. -/
theorem proved : Rows.SealOthersCardSaid :=
  Claim7.holds_tied_plain_at .later [] [.data] true (true, "0131f9f1a1f02ebf5a16687d2fe8903395483cdb43346dae7a1c73827a36235e") false
    over (fun _ h => by cases h) (by kernel_rfl) (fun _ h => by cases h) sealOthers_row_tie rfl ⟨rfl, rfl⟩ (by kernel_rfl) rfl
    (fun f fn hf hfn => by
      obtain rfl : f = 9 := Option.some.inj ((show Tryd.prog.funcNamed "banyan/banyanlaw12.SealOthers" = some 9 by kernel_rfl).symm.trans hf) |>.symm
      obtain rfl : fn = Tryd.f9 := (Option.some.inj (Tryd.func9.symm.trans hfn)).symm
      exact ⟨by kernel_rfl, fun j t ht => by
        rw [Tryd.params9] at ht
        have hm : t ∈ [24, 22, 22] := by simpa using Array.mem_of_getElem? ht
        have hall : ([24, 22, 22].all fun u => !Tryd.prog.wantsStandIn u) = true := by kernel_rfl
        exact (show Tryd.prog.wantsStandIn t = false by simpa using List.all_eq_true.1 hall t hm)⟩)
    (by kernel_rfl)
#print axioms proved
end Go.Proofs.YtfgdddejpdjllaaDoor.sealOthers
