/-
  'SealBack' returns true at every input, and each argument reads behind the call as it read before. Conditions: the package-level variable that the row lists starts as the program's text lays it (the card ties that).
-/
import Derived.Test.YtfgdddejpdjllaaDoorLaid
import Derived.Test.YtfgdddejpdjllaaDoorCards
import Derived.Test.YtfgdddejpdjllaaDoorTie
import Derived.Test.YtfgdddejpdjllaaDoorEj
import Derived.Deep.CutRange
import Derived.Deep.DeepCutAuto
import Derived.Test.YtfgdddejpdjllaaDoorEm
namespace Go.Proofs.YtfgdddejpdjllaaDoor.sealBack
open Go.ChangeShapes Go.WideShapes Go.ChangeAt Go.RowKit
set_option linter.unusedVariables false


set_option maxRecDepth 100000 in
set_option maxHeartbeats 1600000 in
theorem walk (w : World) (maa : Option Addr) (mac : Nat) (ma : List Int) (ba : Option Addr) (bc : Nat) (b : List Int) (ad : Int) (at' : Int) (tu : Int) (qf : (ma.length ≤ mac ∧ mac ≤ 140737488351232 ∧ BS w (.slice maa ma.length mac) ma) ∧ (b.length ≤ bc ∧ bc ≤ 140737488351232 ∧ BS w (.slice ba b.length bc) b) ∧ (0 ≤ ad ∧ ad ≤ 65535) ∧ (0 ≤ at' ∧ at' ≤ 65535) ∧ (0 ≤ tu ∧ tu ≤ 255)) (hK : KT w) :
    Calls Tryd.prog 6 #[.agg (turned12Cells maa mac ma ba bc b ad at' tu).toArray] w fun e w' => e = .returned (.bool true) ∧ Below w.heap.size w w' := by
  obtain ⟨⟨hm1, hm2, hm3⟩, ⟨hb1, hb2, hb3⟩, ⟨ad0, ad1⟩, ⟨at0, at1⟩, ⟨tu0, tu1⟩⟩ := qf
  have HAL := Lib.hid (fun (W : World) (hb : Below w.heap.size w W) => alive12_any W (hK.below hb hK.pos))
  have HK := Lib.hid hK
  have hA0 := heap_alloc_new w (.cells (turned12Cells maa mac ma ba bc b ad at' tu).toArray 58)
  have hB0 := (Below.refl w.heap.size w).alloc (Nat.le_refl _) (.cells (turned12Cells maa mac ma ba bc b ad at' tu).toArray 58)
  have HCL := Lib.hid (fun (W : World) (h : W.heap[w.heap.size]? = some (.cells (turned12Cells maa mac ma ba bc b ad at' tu).toArray 58 (0, 0))) => show W.cell? ⟨w.heap.size, 0, none⟩ = some (.slice maa ma.length mac) ∧ W.cell? ⟨w.heap.size, 1, none⟩ = some (.slice ba b.length bc) ∧ W.cell? ⟨w.heap.size, 2, none⟩ = some (.int .u16 ad) ∧ W.cell? ⟨w.heap.size, 3, none⟩ = some (.int .u16 at') ∧ W.cell? ⟨w.heap.size, 4, none⟩ = some (.int .u8 tu) from turned12_at maa mac ma ba bc b ad at' tu h)
  clear hK
  generalize hcl : (turned12Cells maa mac ma ba bc b ad at' tu).toArray = CL at *
  clear hcl
  have hz32 := zero_arr32
  go_enter Tryd.func6, Tryd.ntmps6
  go_wp2_with fail
  refine (HAL.out _ hB0).mono ?_
  rintro e w1 ⟨rfl, hb1⟩
  have hA1 := (hb1.block w.heap.size (lt_of_block hA0)).trans hA0
  have HBW1 := Lib.hid (hB0.trans (hb1.mono hB0.size))
  have HS := Lib.hid (show ∀ W, Below w1.heap.size w1 W → W.cell? ⟨w.heap.size, 0, none⟩ = some (.slice maa ma.length mac) ∧ W.cell? ⟨w.heap.size, 1, none⟩ = some (.slice ba b.length bc) ∧ W.cell? ⟨w.heap.size, 2, none⟩ = some (.int .u16 ad) ∧ W.cell? ⟨w.heap.size, 3, none⟩ = some (.int .u16 at') ∧ W.cell? ⟨w.heap.size, 4, none⟩ = some (.int .u8 tu) from fun W hW => HCL.out W ((hW.block _ (lt_of_block hA1)).trans hA1))
  clear hA0 hB0 hb1 hA1 HAL HCL
  go_upto_region 3 with (fail)
  go_cut [3, 4, 5, 6, 7] from 8 (fun v3 v4 v5 v6 v7 wc => v3 = .slice maa ma.length mac ∧ v4 = .slice ba b.length bc ∧ v5 = .int .u16 ad ∧ v6 = .int .u16 at' ∧ v7 = .int .u8 tu ∧ Below w1.heap.size w1 wc)
  case first =>
    try simp only [Act.put]
    refine wp_region_noPanic ?_
    refine wp_region_held_drew (S := fun W => W.cell? ⟨w.heap.size, 0, none⟩ = some (.slice maa ma.length mac) ∧ W.cell? ⟨w.heap.size, 1, none⟩ = some (.slice ba b.length bc) ∧ W.cell? ⟨w.heap.size, 2, none⟩ = some (.int .u16 ad) ∧ W.cell? ⟨w.heap.size, 3, none⟩ = some (.int .u16 at') ∧ W.cell? ⟨w.heap.size, 4, none⟩ = some (.int .u8 tu)) (by kernel_rfl) (HS.out _ (Below.refl _ w1).drew) (fun hHeld => ?_)
    refine wpAnyH_take (i := 0) (oi := ⟨some 21, _, _, _, _, _⟩) (v := ?_) rfl (by kernel_rfl) (by decide +kernel) (by decide +kernel) (fun _ _ _ h => h) (Or.inl ⟨by rfl, ?_⟩) (by assumption) ?_
    rotate_left 1
    · (intro w' hSw; go_simp; try with_reducible rfl)
    try simp only [Act.put, List.setIfInBounds_toArray, List.set_cons_zero, List.set_cons_succ]
    refine wpAnyH_take (i := 1) (oi := ⟨some 22, _, _, _, _, _⟩) (v := ?_) rfl (by kernel_rfl) (by decide +kernel) (by decide +kernel) (fun _ _ _ h => h) (Or.inl ⟨by rfl, ?_⟩) (by assumption) ?_
    rotate_left 1
    · (intro w' hSw; have hcell := hSw.1; clear hSw; go_simp; try with_reducible rfl)
    try simp only [Act.put, List.setIfInBounds_toArray, List.set_cons_zero, List.set_cons_succ]
    refine wpAnyH_take (i := 2) (oi := ⟨some 23, _, _, _, _, _⟩) (v := ?_) rfl (by kernel_rfl) (by decide +kernel) (by decide +kernel) (fun _ _ _ h => h) (Or.inl ⟨by rfl, ?_⟩) (by assumption) ?_
    rotate_left 1
    · (intro w' hSw; go_simp; try with_reducible rfl)
    try simp only [Act.put, List.setIfInBounds_toArray, List.set_cons_zero, List.set_cons_succ]
    refine wpAnyH_take (i := 3) (oi := ⟨some 24, _, _, _, _, _⟩) (v := ?_) rfl (by kernel_rfl) (by decide +kernel) (by decide +kernel) (fun _ _ _ h => h) (Or.inl ⟨by rfl, ?_⟩) (by assumption) ?_
    rotate_left 1
    · (intro w' hSw; have hcell := hSw.2.1; clear hSw; go_simp; try with_reducible rfl)
    try simp only [Act.put, List.setIfInBounds_toArray, List.set_cons_zero, List.set_cons_succ]
    refine wpAnyH_take (i := 4) (oi := ⟨some 25, _, _, _, _, _⟩) (v := ?_) rfl (by kernel_rfl) (by decide +kernel) (by decide +kernel) (fun _ _ _ h => h) (Or.inl ⟨by rfl, ?_⟩) (by assumption) ?_
    rotate_left 1
    · (intro w' hSw; go_simp; try with_reducible rfl)
    try simp only [Act.put, List.setIfInBounds_toArray, List.set_cons_zero, List.set_cons_succ]
    refine wpAnyH_take (i := 5) (oi := ⟨some 26, _, _, _, _, _⟩) (v := ?_) rfl (by kernel_rfl) (by decide +kernel) (by decide +kernel) (fun _ _ _ h => h) (Or.inl ⟨by rfl, ?_⟩) (by assumption) ?_
    rotate_left 1
    · (intro w' hSw; have hcell := hSw.2.2.1; clear hSw; go_simp; try with_reducible rfl)
    try simp only [Act.put, List.setIfInBounds_toArray, List.set_cons_zero, List.set_cons_succ]
    refine wpAnyH_take (i := 6) (oi := ⟨some 27, _, _, _, _, _⟩) (v := ?_) rfl (by kernel_rfl) (by decide +kernel) (by decide +kernel) (fun _ _ _ h => h) (Or.inl ⟨by rfl, ?_⟩) (by assumption) ?_
    rotate_left 1
    · (intro w' hSw; go_simp; try with_reducible rfl)
    try simp only [Act.put, List.setIfInBounds_toArray, List.set_cons_zero, List.set_cons_succ]
    refine wpAnyH_take (i := 7) (oi := ⟨some 28, _, _, _, _, _⟩) (v := ?_) rfl (by kernel_rfl) (by decide +kernel) (by decide +kernel) (fun _ _ _ h => h) (Or.inl ⟨by rfl, ?_⟩) (by assumption) ?_
    rotate_left 1
    · (intro w' hSw; have hcell := hSw.2.2.2.1; clear hSw; go_simp; try with_reducible rfl)
    try simp only [Act.put, List.setIfInBounds_toArray, List.set_cons_zero, List.set_cons_succ]
    refine wpAnyH_take (i := 8) (oi := ⟨some 29, _, _, _, _, _⟩) (v := ?_) rfl (by kernel_rfl) (by decide +kernel) (by decide +kernel) (fun _ _ _ h => h) (Or.inl ⟨by rfl, ?_⟩) (by assumption) ?_
    rotate_left 1
    · (intro w' hSw; go_simp; try with_reducible rfl)
    try simp only [Act.put, List.setIfInBounds_toArray, List.set_cons_zero, List.set_cons_succ]
    refine wpAnyH_take (i := 9) (oi := ⟨some 30, _, _, _, _, _⟩) (v := ?_) rfl (by kernel_rfl) (by decide +kernel) (by decide +kernel) (fun _ _ _ h => h) (Or.inl ⟨by rfl, ?_⟩) (by assumption) ?_
    rotate_left 1
    · (intro w' hSw; have hcell := hSw.2.2.2.2; clear hSw; go_simp; try with_reducible rfl)
    try simp only [Act.put, List.setIfInBounds_toArray, List.set_cons_zero, List.set_cons_succ]
    clear hHeld
    have HB0 := Lib.hid (Below.refl w1.heap.size w1).drew
    have hHeld := HS.out _ HB0.out
    refine wpAnyH_take (i := 10) (oi := ⟨some 3, _, _, _, _, _⟩) (v := ?_) rfl (by kernel_rfl) (by decide +kernel) (by decide +kernel) (fun _ _ _ h => h) (Or.inl ⟨by rfl, ?_⟩) (by assumption) ?_
    rotate_left 1
    · (intro w' hSw; go_simp; try with_reducible rfl)
    try simp only [Act.put, List.setIfInBounds_toArray, List.set_cons_zero, List.set_cons_succ]
    refine wpAnyH_take (i := 11) (oi := ⟨some 4, _, _, _, _, _⟩) (v := ?_) rfl (by kernel_rfl) (by decide +kernel) (by decide +kernel) (fun _ _ _ h => h) (Or.inl ⟨by rfl, ?_⟩) (by assumption) ?_
    rotate_left 1
    · (intro w' hSw; go_simp; try with_reducible rfl)
    try simp only [Act.put, List.setIfInBounds_toArray, List.set_cons_zero, List.set_cons_succ]
    refine wpAnyH_take (i := 12) (oi := ⟨some 5, _, _, _, _, _⟩) (v := ?_) rfl (by kernel_rfl) (by decide +kernel) (by decide +kernel) (fun _ _ _ h => h) (Or.inl ⟨by rfl, ?_⟩) (by assumption) ?_
    rotate_left 1
    · (intro w' hSw; go_simp; try with_reducible rfl)
    try simp only [Act.put, List.setIfInBounds_toArray, List.set_cons_zero, List.set_cons_succ]
    refine wpAnyH_take (i := 13) (oi := ⟨some 6, _, _, _, _, _⟩) (v := ?_) rfl (by kernel_rfl) (by decide +kernel) (by decide +kernel) (fun _ _ _ h => h) (Or.inl ⟨by rfl, ?_⟩) (by assumption) ?_
    rotate_left 1
    · (intro w' hSw; go_simp; try with_reducible rfl)
    try simp only [Act.put, List.setIfInBounds_toArray, List.set_cons_zero, List.set_cons_succ]
    refine wpAnyH_take (i := 14) (oi := ⟨some 7, _, _, _, _, _⟩) (v := ?_) rfl (by kernel_rfl) (by decide +kernel) (by decide +kernel) (fun _ _ _ h => h) (Or.inl ⟨by rfl, ?_⟩) (by assumption) ?_
    rotate_left 1
    · (intro w' hSw; go_simp; try with_reducible rfl)
    try simp only [Act.put, List.setIfInBounds_toArray, List.set_cons_zero, List.set_cons_succ]
    clear hHeld
    refine wpAnyH_done (by decide +kernel) ?_ _
    refine NoPanic.normal ?_
    go_wp2_with fail
    go_meet
    exact ⟨rfl, rfl, rfl, rfl, rfl, HB0.out⟩
  case rest =>
    obtain ⟨rfl, rfl, rfl, rfl, rfl, hbc⟩ := hcut
    have HBC := Lib.hid (HBW1.out.trans (hbc.mono HBW1.out.size))
    clear hbc HS HBW1 hz32
    obtain ⟨c0, rfl⟩ : ∃ c : Nat, ad = (c : Int) := ⟨ad.toNat, by omega⟩
    obtain ⟨at2, rfl⟩ : ∃ c : Nat, at' = (c : Int) := ⟨at'.toNat, by omega⟩
    obtain ⟨tb, rfl⟩ : ∃ z : BitVec 8, tu = yv z := ⟨BitVec.ofNat 8 tu.toNat, by rw [yv_byte]; omega⟩
    have HI1 := Lib.hid (And.intro hm3 (And.intro hm1 hm2))
    have HI2 := Lib.hid (bts_of hb3 rfl hb1 hb2)
    generalize toY b = Y at *
    generalize hl1 : ma.length = n1 at *
    generalize hl2 : b.length = n2 at *
    have HN1 := Lib.hid hl1
    have mI : (n1 : Int) ≤ 140737488351232 := by omega
    have nI : (n2 : Int) ≤ 140737488351232 := by omega
    by_cases hg1 : 200 < n1
    · have g1 : (200 : Int) < (n1 : Int) := by omega
      clear hg1 hl1 hl2 hm1 hm2 hm3 hb1 hb2 hb3 ad0 ad1 at0 at1 tu0 tu1
      go_wp2_with fail
      go_ret
      exact ⟨rfl, HBC.out⟩
    have g1 : (n1 : Int) ≤ 200 := by omega
    by_cases hg2 : 600 < n2
    · have g2 : (600 : Int) < (n2 : Int) := by omega
      clear hg1 hg2 hl1 hl2 hm1 hm2 hm3 hb1 hb2 hb3 ad0 ad1 at0 at1 tu0 tu1
      go_wp2_with fail
      go_ret
      exact ⟨rfl, HBC.out⟩
    have g2 : (n2 : Int) ≤ 600 := by omega
    have HNS := Lib.hid (show n1 ≤ 200 ∧ n2 ≤ 600 by omega)
    obtain ⟨a, ha⟩ : ∃ c : Nat, 2 + (c0 : Int) % 4000 = (c : Int) := ⟨2 + c0 % 4000, by simp⟩
    obtain ⟨j, hj⟩ : ∃ j : Nat, (at2 : Int) % 512 = (j : Int) := ⟨at2 % 512, by simp⟩
    have HAJ := Lib.hid (show (2 ≤ a ∧ a < 4096 ∧ a < 4294967296) ∧ j < 512 by omega)
    have HA := Lib.hid ha
    have HJ := Lib.hid hj
    have HCB := Lib.hid ad1
    have HTB := Lib.hid (And.intro at0 at1)
    have hw2 : IntKind.u32.wrap (2 + (c0 : Int) % 4000) = 2 + (c0 : Int) % 4000 := IntWalk.u32_in _ (by omega)
    have HW2 := Lib.hid hw2
    clear hg1 hg2 hl1 hl2 hm1 hm2 hm3 hb1 hb2 hb3 ad0 ad1 at0 at1 tu0 tu1 ha hj hw2
    have HDE := Lib.hid (fun (W : World) (hW : Below w.heap.size w W) => pkeysK_any ma (.slice maa n1 mac) W (HI1.out.1.kept hW) (room_of _ _ _ (by have := HI1.out.2; have := HN1.out; omega) (by have := HI1.out.2; omega)) (HK.out.below hW HK.out.pos) (by have := HN1.out; have := HNS.out; omega))
    have hkl := encK_length ma
    have hml := macK_length ma
    generalize encK ma = k at *
    generalize macK ma = m at *
    have HKL := Lib.hid (And.intro hkl hml)
    have hkz : (k ++ m).length = 64 := by rw [List.length_append, hkl, hml]
    have SK := Lib.hid (size_keys _ hkz)
    have SL := Lib.hid (show (yvs (zeroY 64)).size = (yvs (k ++ m)).size by rw [yvs_size, yvs_size, hkz]; rfl)
    have SO := Lib.hid (yvs_one (k ++ m))
    have hz1 := zero_keys
    have hz := zero_ptr
    clear hkz hkl hml
    have HBLK := Lib.hid (fun (W : World) (hb : Below w.heap.size w W) => block_any Y ba n2 bc W (HI2.out.below hb) (by have := HNS.out; omega))
    have HBL := Lib.hid (blockL_length Y)
    generalize blockL Y = BA at *
    have HSEA := Lib.hid (fun (W : World) (g : Nat) (hW : Below w.heap.size w W) (hg : ArrY W g 5 BA) => show Calls Tryd.prog 14 #[.agg (yvs (k ++ m)), .int .u64 7, .int .u32 (a : Int), .slice (some ⟨g, 0, none⟩) 512 512] W (SealOf W (sealS k 7 a BA) (ptrOf 7 a ((sealS k 7 a BA).map yv))) from
      pseal_ok k m 7 a BA (some ⟨g, 0, none⟩) 512 W (HK.out.below hW HK.out.pos) HKL.out.1 HKL.out.2 HBL.out (BS.of_arr0 hg HBL.out) (by decide) (by decide) HAJ.out.1.1 HAJ.out.1.2.1)
    have HSLA := Lib.hid (sealS_length k 7 a BA HBL.out)
    have HO1 := Lib.hid (openA_sealed k 7 a BA HBL.out (by decide) HAJ.out.1.2.2)
    generalize sealS k 7 a BA = SA at *
    have HPP := Lib.hid (ptrOf_parts 7 a (SA.map yv) HAJ.out.1.2.2 (by decide))
    have HO2 := Lib.hid (fun (d : List (BitVec 8)) (hd : d.length = 512) (hne : hashS (d.map yv) ≠ hashS (SA.map yv)) => openA_other k 7 a SA d hd (by decide) HAJ.out.1.2.2 hne)
    have HFT := Lib.hid (show fitsB (ptrOf 7 a (SA.map yv)) (SA.map yv) = true by rw [fits_len _ _ HSLA.out, HPP.out.2.2]; simp)
    have HFI := Lib.hid (fun (W : World) (g : Nat) (hW : Below w.heap.size w W) (hg : ArrY W g 5 SA) => by
      have h := pfits_any (ptrOf 7 a (SA.map yv)) (SA.map yv) (some ⟨g, 0, none⟩) 512 512 W (HK.out.below hW HK.out.pos) (BS.of_arr0 hg HSLA.out) (by rw [List.length_map]; exact HSLA.out) (Nat.le_refl _) (by decide)
      rw [HFT.out] at h
      exact h)
    have HSU := Lib.hid (fun (W : World) (l : List (BitVec 8)) (x : Option Addr) (y z : Nat) (hW : Below w.heap.size w W) (hg : Bts W x y z l) (hl : l.length = 512) => shasum_any (l.map yv) (.slice x y z) W (HK.out.below hW HK.out.pos) hg.1 (room_of _ _ _ hg.2.2.1 hg.2.2.2) (by rw [List.length_map, hl]; decide))
    have HOX := Lib.hid (fun (W : World) (l : List (BitVec 8)) (x : Option Addr) (y z : Nat) (hW : Below w.heap.size w W) (hg : Bts W x y z l) => popen12_any k m (ptrOf 7 a (SA.map yv)) l x y z W (HK.out.below hW HK.out.pos) HKL.out.1 HKL.out.2 hg)
    have SPA := Lib.hid (size_ptrA (ptrOf 7 a (SA.map yv)))
    have SPL := Lib.hid (size_ptr (ptrOf 7 a (SA.map yv)))
    have SH := Lib.hid (show (Tryd.prog.info? 26).map (·.size) = some (u8s (hashS (SA.map yv))).toList.length by rw [Array.length_toList, u8s_size, hashS_length]; kernel_rfl)
    have EPA := Lib.hid (show (ptrRow zeroPtr).toArray.size = (ptrRow (ptrOf 7 a (SA.map yv))).toArray.size by simp [ptrRow_length])
    have OPA := Lib.hid (ptrRow_one (ptrOf 7 a (SA.map yv)))
    have HPC := Lib.hid (fun (W : World) (q : Nat) (h : W.heap[q]? = some (.cells (ptrRow (ptrOf 7 a (SA.map yv))).toArray 41 (0, 0))) => show W.rangeAt q 0 (ptrRow (ptrOf 7 a (SA.map yv))) ∧ W.cell? ⟨q, 0, none⟩ = some (.int .u32 (a : Int)) ∧ W.cell? ⟨q, 1, none⟩ = some (.int .u64 7) ∧ W.rangeAt q 2 (u8s (hashS (SA.map yv))).toList from by
      have h1 := ptr_at h
      rw [HPP.out.1, HPP.out.2.1, HPP.out.2.2] at h1
      exact ⟨range_of_row h, h1.1, h1.2.1, h1.2.2⟩)
    have HNQ := Lib.hid (fun i j W => neq_hash_same i j (hashS (SA.map yv)) (hashS_length _) (hashS_byt _) W)
    have HQL := Lib.hid (fun i j W => eql_hash_same i j (hashS (SA.map yv)) (hashS_length _) (hashS_byt _) W)
    have HPS := Lib.hid HPP.out.2.2
    generalize hPTA : ptrOf 7 a (SA.map yv) = PTA at *
    generalize hPL : ptrRow PTA = PL at *
    have HPRA := Lib.hid (show (ptrRow PTA).toArray = PL.toArray by rw [hPL])
    generalize hHS : hashS (SA.map yv) = HS at *
    have HHS := Lib.hid hHS
    generalize (ptrRow zeroPtr).toArray = PZ at *
    generalize yvs (k ++ m) = KM at *
    generalize yvs (zeroY 64) = ZK at *
    clear hPTA hPL hHS
    go_wp2_with fail
    refine (HDE.out _ HBC.out).mono ?_
    rintro e w5 ⟨rfl, hb⟩
    have HB101 := Lib.hid (HBC.out.trans (hb.mono HBC.out.size))
    clear HBC
    clear hb
    go_wp2_with fail
    refine (HBLK.out _ HB101.out).mono ?_
    rintro e w6 ⟨rfl, hA, hb⟩
    have HI6 := Lib.hid (show w6.heap[w5.heap.size]? = some (.cells (yvs BA) 5 (0, 0)) from hA)
    have HB102 := Lib.hid (HB101.out.trans (hb.mono HB101.out.size))
    clear HB101
    clear hb hA
    generalize w5.heap.size = GI at *
    go_upto_region 7 with (first
      | (with_reducible refine wpList_store_row (o := ⟨none, .store _ (.tmp 8) _, _, _, _, _⟩) rfl 28 _ _ rfl w6.heap.size KM rfl rfl 28 ZK (heap_alloc_new w6 _) SK.out SL.out SO.out ?_))
    generalize hWs : World.setRow _ w6.heap.size _ = ws103
    obtain ⟨r1, hb⟩ := fresh_one w6 ZK KM 28 ws103 hWs.symm
    have RNK := Lib.hid r1
    have RI104 := Lib.hid ((hb.block _ (lt_of_block HI6.out)).trans HI6.out)
    have HB104 := Lib.hid (HB102.out.trans (hb.mono HB102.out.size))
    clear HI6 HB102
    clear hWs r1 hb
    generalize w6.heap.size = BK at *
    have hw2 := HW2.out
    have cB : (c0 : Int) ≤ 65535 := HCB.out
    try simp only [Act.put]
    go_upto_region 8 with fail
    simp only [HA.out]
    clear hw2 cB HA HW2 HCB hz1 HDE
    go_wp2_with (first
      | (with_reducible refine wpList_load_row (o := ⟨some 48, _, _, _, _, _⟩) rfl 28 _ rfl BK rfl 28 KM (0, 0) _ RNK.out Tryd.underlying28 rfl SK.out ?_))
    refine (HSEA.out _ GI HB104.out RI104.out).mono ?_
    intro e w8 hso
    unfold SealOf at hso
    rw [HPRA.out] at hso
    obtain ⟨c1, hgc, rfl, hA, hb⟩ := hso
    have RI105 := Lib.hid ((hb.block _ (lt_of_block RI104.out)).trans RI104.out)
    have RK105 := Lib.hid ((hb.block _ (lt_of_block RNK.out)).trans RNK.out)
    have HB105 := Lib.hid (HB104.out.trans (hb.mono HB104.out.size))
    have RC8 := Lib.hid (show w8.heap[c1]? = some (.cells (yvs SA) 5 (0, 0)) from hA)
    clear RI104 RNK HB104 hb hA hgc HSEA
    go_upto_region 9 with (first
      | (with_reducible refine wpList_store_row (o := ⟨none, .store _ (.tmp 12) _, _, _, _, _⟩) rfl 41 _ _ rfl w8.heap.size PL.toArray rfl rfl 41 PZ (heap_alloc_new w8 _) SPA.out EPA.out OPA.out ?_))
    generalize hWs : World.setRow _ w8.heap.size _ = ws106
    obtain ⟨r1, hb⟩ := fresh_one w8 PZ PL.toArray 41 ws106 hWs.symm
    have RNQ := Lib.hid r1
    have RI107 := Lib.hid ((hb.block _ (lt_of_block RI105.out)).trans RI105.out)
    have RK107 := Lib.hid ((hb.block _ (lt_of_block RK105.out)).trans RK105.out)
    have RC107 := Lib.hid ((hb.block _ (lt_of_block RC8.out)).trans RC8.out)
    have HB107 := Lib.hid (HB105.out.trans (hb.mono HB105.out.size))
    clear RI105 RK105 RC8 HB105
    clear hWs r1 hb
    generalize w8.heap.size = BQ at *
    try simp only [Act.put]
    have HSV := Lib.hid (show ∀ W, Below ws106.heap.size ws106 W → W.rangeAt BQ 0 PL ∧ W.cell? ⟨BQ, 0, none⟩ = some (.int .u32 (a : Int)) ∧ W.cell? ⟨BQ, 1, none⟩ = some (.int .u64 7) ∧ W.rangeAt BQ 2 (u8s HS).toList from fun W hW => HPC.out W BQ ((hW.block _ (lt_of_block RNQ.out)).trans RNQ.out))
    clear hz HPC
    try simp only [Act.put]
    refine wp_region_noPanic ?_
    refine wp_region_held_drew (S := fun W => W.rangeAt BQ 0 PL ∧ W.cell? ⟨BQ, 0, none⟩ = some (.int .u32 (a : Int)) ∧ W.cell? ⟨BQ, 1, none⟩ = some (.int .u64 7) ∧ W.rangeAt BQ 2 (u8s HS).toList) (by kernel_rfl) (HSV.out _ (Below.refl _ ws106).drew) (fun hHeld => ?_)
    refine wpAnyH_take (i := 0) (oi := ⟨some 55, _, _, _, _, _⟩) (v := ?_) rfl (by kernel_rfl) (by decide +kernel) (by decide +kernel) (fun _ _ _ h => h) (Or.inl ⟨by rfl, ?_⟩) (by assumption) ?_
    rotate_left 1
    · (intro w' hSw; go_simp; try with_reducible rfl)
    try simp only [Act.put, List.setIfInBounds_toArray, List.set_cons_zero, List.set_cons_succ]
    refine wpAnyH_take (i := 1) (oi := ⟨some 56, _, _, _, _, _⟩) (v := ?_) rfl (by kernel_rfl) (by decide +kernel) (by decide +kernel) (fun _ _ _ h => h) (Or.inl ⟨by rfl, ?_⟩) (by assumption) ?_
    rotate_left 1
    · (intro w' hSw; go_simp; try with_reducible rfl)
    try simp only [Act.put, List.setIfInBounds_toArray, List.set_cons_zero, List.set_cons_succ]
    refine wpAnyH_take (i := 2) (oi := ⟨some 57, _, _, _, _, _⟩) (v := ?_) rfl (by kernel_rfl) (by decide +kernel) (by decide +kernel) (fun _ _ _ h => h) (Or.inl ⟨by rfl, ?_⟩) (by assumption) ?_
    rotate_left 1
    · (intro w' hSw; go_simp; try with_reducible rfl)
    try simp only [Act.put, List.setIfInBounds_toArray, List.set_cons_zero, List.set_cons_succ]
    refine wpAnyH_take (i := 3) (oi := ⟨some 58, _, _, _, _, _⟩) rfl (by kernel_rfl) (by decide +kernel) (by decide +kernel) (fun _ _ _ h => h) (yieldsIf_load_mid (by rfl) _ _ rfl (BQ) (0) rfl PL _ (fun w' h => h.1) Tryd.underlying41 rfl SPL.out) (by assumption) ?_
    try simp only [Act.put, List.setIfInBounds_toArray, List.set_cons_zero, List.set_cons_succ]
    refine wpAnyH_take (i := 4) (oi := ⟨some 59, _, _, _, _, _⟩) (v := ?_) rfl (by kernel_rfl) (by decide +kernel) (by decide +kernel) (fun _ _ _ h => h) (Or.inl ⟨by rfl, ?_⟩) (by assumption) ?_
    rotate_left 1
    · (intro w' hSw; go_simp; try with_reducible rfl)
    try simp only [Act.put, List.setIfInBounds_toArray, List.set_cons_zero, List.set_cons_succ]
    clear hHeld
    have HZ0 := Lib.hid (Below.refl ws106.heap.size ws106).drew
    refine wpAnyH_ready (rs := [5]) (by decide +kernel) (by simp) ?_
    refine AllReadyH.cons rfl (fun K hK => ?_) AllReadyH.nil
    rw [if_pos (by kernel_rfl)]
    go_simp
    go_at_call 20
    refine (HFI.out _ c1 (HB107.out.trans (HZ0.out.mono HB107.out.size)) ((HZ0.out.block _ (lt_of_block RC107.out)).trans RC107.out)).mono ?_
    rintro e wa ⟨rfl, hb⟩
    have HZ1 := Lib.hid (HZ0.out.trans (hb.mono HZ0.out.size))
    clear hb
    go_wp2_with fail
    refine hK.out _ _ (HSV.out _ HZ1.out) (fun hHeld => ?_)
    clear hK K
    try simp only [Act.put, List.setIfInBounds_toArray, List.set_cons_zero, List.set_cons_succ]
    refine wpAnyH_take (i := 6) (oi := ⟨some 61, _, _, _, _, _⟩) (v := ?_) rfl (by kernel_rfl) (by decide +kernel) (by decide +kernel) (fun _ _ _ h => h) (Or.inl ⟨by rfl, ?_⟩) (by assumption) ?_
    rotate_left 1
    · (intro w' hSw; go_simp; try with_reducible rfl)
    try simp only [Act.put, List.setIfInBounds_toArray, List.set_cons_zero, List.set_cons_succ]
    refine wpAnyH_take (i := 7) (oi := ⟨some 62, _, _, _, _, _⟩) (v := ?_) rfl (by kernel_rfl) (by decide +kernel) (by decide +kernel) (fun _ _ _ h => h) (Or.inl ⟨by rfl, ?_⟩) (by assumption) ?_
    rotate_left 1
    · (intro w' hSw; go_simp; try with_reducible rfl)
    try simp only [Act.put, List.setIfInBounds_toArray, List.set_cons_zero, List.set_cons_succ]
    refine wpAnyH_take (i := 8) (oi := ⟨some 63, _, _, _, _, _⟩) (v := ?_) rfl (by kernel_rfl) (by decide +kernel) (by decide +kernel) (fun _ _ _ h => h) (Or.inl ⟨by rfl, ?_⟩) (by assumption) ?_
    rotate_left 1
    · (intro w' hSw; go_simp; try with_reducible rfl)
    try simp only [Act.put, List.setIfInBounds_toArray, List.set_cons_zero, List.set_cons_succ]
    refine wpAnyH_take (i := 9) (oi := ⟨some 64, _, _, _, _, _⟩) (v := ?_) rfl (by kernel_rfl) (by decide +kernel) (by decide +kernel) (fun _ _ _ h => h) (Or.inl ⟨by rfl, ?_⟩) (by assumption) ?_
    rotate_left 1
    · (intro w' hSw; go_simp; try with_reducible rfl)
    try simp only [Act.put, List.setIfInBounds_toArray, List.set_cons_zero, List.set_cons_succ]
    refine wpAnyH_take (i := 10) (oi := ⟨some 65, _, _, _, _, _⟩) (v := ?_) rfl (by kernel_rfl) (by decide +kernel) (by decide +kernel) (fun _ _ _ h => h) (Or.inl ⟨by rfl, ?_⟩) (by assumption) ?_
    rotate_left 1
    · (intro w' hSw; have hcell := hSw.2.1; clear hSw; go_simp; try with_reducible rfl)
    try simp only [Act.put, List.setIfInBounds_toArray, List.set_cons_zero, List.set_cons_succ]
    refine wpAnyH_take (i := 11) (oi := ⟨some 66, _, _, _, _, _⟩) (v := ?_) rfl (by kernel_rfl) (by decide +kernel) (by decide +kernel) (fun _ _ _ h => h) (Or.inl ⟨by rfl, ?_⟩) (by assumption) ?_
    rotate_left 1
    · (intro w' hSw; go_simp; try with_reducible rfl)
    try simp only [Act.put, List.setIfInBounds_toArray, List.set_cons_zero, List.set_cons_succ]
    refine wpAnyH_take (i := 12) (oi := ⟨some 67, _, _, _, _, _⟩) (v := ?_) rfl (by kernel_rfl) (by decide +kernel) (by decide +kernel) (fun _ _ _ h => h) (Or.inl ⟨by rfl, ?_⟩) (by assumption) ?_
    rotate_left 1
    · (intro w' hSw; go_simp; try with_reducible rfl)
    try simp only [Act.put, List.setIfInBounds_toArray, List.set_cons_zero, List.set_cons_succ]
    refine wpAnyH_take (i := 13) (oi := ⟨some 68, _, _, _, _, _⟩) (v := ?_) rfl (by kernel_rfl) (by decide +kernel) (by decide +kernel) (fun _ _ _ h => h) (Or.inl ⟨by rfl, ?_⟩) (by assumption) ?_
    rotate_left 1
    · (intro w' hSw; go_simp; try with_reducible rfl)
    try simp only [Act.put, List.setIfInBounds_toArray, List.set_cons_zero, List.set_cons_succ]
    refine wpAnyH_take (i := 14) (oi := ⟨some 69, _, _, _, _, _⟩) (v := ?_) rfl (by kernel_rfl) (by decide +kernel) (by decide +kernel) (fun _ _ _ h => h) (Or.inl ⟨by rfl, ?_⟩) (by assumption) ?_
    rotate_left 1
    · (intro w' hSw; go_simp; try with_reducible rfl)
    try simp only [Act.put, List.setIfInBounds_toArray, List.set_cons_zero, List.set_cons_succ]
    refine wpAnyH_take (i := 15) (oi := ⟨some 70, _, _, _, _, _⟩) (v := ?_) rfl (by kernel_rfl) (by decide +kernel) (by decide +kernel) (fun _ _ _ h => h) (Or.inl ⟨by rfl, ?_⟩) (by assumption) ?_
    rotate_left 1
    · (intro w' hSw; go_simp; try with_reducible rfl)
    try simp only [Act.put, List.setIfInBounds_toArray, List.set_cons_zero, List.set_cons_succ]
    refine wpAnyH_take (i := 16) (oi := ⟨some 71, _, _, _, _, _⟩) (v := ?_) rfl (by kernel_rfl) (by decide +kernel) (by decide +kernel) (fun _ _ _ h => h) (Or.inl ⟨by rfl, ?_⟩) (by assumption) ?_
    rotate_left 1
    · (intro w' hSw; have hcell := hSw.2.2.1; clear hSw; go_simp; try with_reducible rfl)
    try simp only [Act.put, List.setIfInBounds_toArray, List.set_cons_zero, List.set_cons_succ]
    refine wpAnyH_take (i := 17) (oi := ⟨some 72, _, _, _, _, _⟩) (v := ?_) rfl (by kernel_rfl) (by decide +kernel) (by decide +kernel) (fun _ _ _ h => h) (Or.inl ⟨by rfl, ?_⟩) (by assumption) ?_
    rotate_left 1
    · (intro w' hSw; go_simp; try with_reducible rfl)
    try simp only [Act.put, List.setIfInBounds_toArray, List.set_cons_zero, List.set_cons_succ]
    refine wpAnyH_take (i := 18) (oi := ⟨some 73, _, _, _, _, _⟩) (v := ?_) rfl (by kernel_rfl) (by decide +kernel) (by decide +kernel) (fun _ _ _ h => h) (Or.inl ⟨by rfl, ?_⟩) (by assumption) ?_
    rotate_left 1
    · (intro w' hSw; go_simp; try with_reducible rfl)
    try simp only [Act.put, List.setIfInBounds_toArray, List.set_cons_zero, List.set_cons_succ]
    refine wpAnyH_take (i := 19) (oi := ⟨some 74, _, _, _, _, _⟩) (v := ?_) rfl (by kernel_rfl) (by decide +kernel) (by decide +kernel) (fun _ _ _ h => h) (Or.inl ⟨by rfl, ?_⟩) (by assumption) ?_
    rotate_left 1
    · (intro w' hSw; go_simp; try with_reducible rfl)
    try simp only [Act.put, List.setIfInBounds_toArray, List.set_cons_zero, List.set_cons_succ]
    refine wpAnyH_take (i := 20) (oi := ⟨some 75, _, _, _, _, _⟩) (v := ?_) rfl (by kernel_rfl) (by decide +kernel) (by decide +kernel) (fun _ _ _ h => h) (Or.inl ⟨by rfl, ?_⟩) (by assumption) ?_
    rotate_left 1
    · (intro w' hSw; go_simp; try with_reducible rfl)
    try simp only [Act.put, List.setIfInBounds_toArray, List.set_cons_zero, List.set_cons_succ]
    refine wpAnyH_take (i := 21) (oi := ⟨some 76, _, _, _, _, _⟩) rfl (by kernel_rfl) (by decide +kernel) (by decide +kernel) (fun _ _ _ h => h) (yieldsIf_load_mid (by rfl) _ _ rfl (BQ) (2) rfl (u8s HS).toList _ (fun w' h => h.2.2.2) Tryd.underlying26 rfl SH.out) (by assumption) ?_
    try simp only [Act.put, List.setIfInBounds_toArray, List.set_cons_zero, List.set_cons_succ, Array.toArray_toList]
    refine wpAnyH_take (i := 22) (oi := ⟨some 77, _, _, _, _, _⟩) (v := ?_) rfl (by kernel_rfl) (by decide +kernel) (by decide +kernel) (fun _ _ _ h => h) (Or.inl ⟨by rfl, ?_⟩) (by assumption) ?_
    rotate_left 1
    · (intro w' hSw; go_simp; try with_reducible rfl)
    try simp only [Act.put, List.setIfInBounds_toArray, List.set_cons_zero, List.set_cons_succ]
    clear hHeld
    have hsu := HSU.out wa SA (some ⟨c1, 0, none⟩) 512 512 (HB107.out.trans (HZ1.out.mono HB107.out.size)) (Bts.arr (show ArrY wa c1 5 SA from (HZ1.out.block _ (lt_of_block RC107.out)).trans RC107.out) HSLA.out (by decide)) HSLA.out
    rw [HHS.out] at hsu
    have HSU1 := Lib.hid hsu
    clear hsu
    refine wpAnyH_ready (rs := [23]) (by decide +kernel) (by simp) ?_
    refine AllReadyH.cons rfl (fun K hK => ?_) AllReadyH.nil
    rw [if_pos (by kernel_rfl)]
    go_simp
    go_at_call 19
    refine (HSU1.out).mono ?_
    rintro e wb ⟨rfl, hb⟩
    have HZ2 := Lib.hid (HZ1.out.trans (hb.mono HZ1.out.size))
    clear hb HSU1
    go_wp2_with fail
    refine hK.out _ _ (HSV.out _ HZ2.out) (fun hHeld => ?_)
    clear hK K
    try simp only [Act.put, List.setIfInBounds_toArray, List.set_cons_zero, List.set_cons_succ]
    refine wpAnyH_take (i := 24) (oi := ⟨some 79, _, _, _, _, _⟩) rfl (by kernel_rfl) (by decide +kernel) (by decide +kernel) (fun _ _ _ h => h) (yieldsIf_bin (by rfl) .neq 26 _ _ _ rfl (.agg (u8s HS)) (.agg (u8s HS)) (.bool false) rfl rfl (HNQ.out 76 78)) (by assumption) ?_
    try simp only [Act.put, List.setIfInBounds_toArray, List.set_cons_zero, List.set_cons_succ]
    refine wpAnyH_take (i := 25) (oi := ⟨some 80, _, _, _, _, _⟩) (v := ?_) rfl (by kernel_rfl) (by decide +kernel) (by decide +kernel) (fun _ _ _ h => h) (Or.inl ⟨by rfl, ?_⟩) (by assumption) ?_
    rotate_left 1
    · (intro w' hSw; go_simp; try with_reducible rfl)
    try simp only [Act.put, List.setIfInBounds_toArray, List.set_cons_zero, List.set_cons_succ]
    refine wpAnyH_take (i := 26) (oi := ⟨some 81, _, _, _, _, _⟩) (v := ?_) rfl (by kernel_rfl) (by decide +kernel) (by decide +kernel) (fun _ _ _ h => h) (Or.inl ⟨by rfl, ?_⟩) (by assumption) ?_
    rotate_left 1
    · (intro w' hSw; go_simp; try with_reducible rfl)
    try simp only [Act.put, List.setIfInBounds_toArray, List.set_cons_zero, List.set_cons_succ]
    refine wpAnyH_take (i := 27) (oi := ⟨some 82, _, _, _, _, _⟩) (v := ?_) rfl (by kernel_rfl) (by decide +kernel) (by decide +kernel) (fun _ _ _ h => h) (Or.inl ⟨by rfl, ?_⟩) (by assumption) ?_
    rotate_left 1
    · (intro w' hSw; go_simp; try with_reducible rfl)
    try simp only [Act.put, List.setIfInBounds_toArray, List.set_cons_zero, List.set_cons_succ]
    refine wpAnyH_take (i := 28) (oi := ⟨some 83, _, _, _, _, _⟩) (v := ?_) rfl (by kernel_rfl) (by decide +kernel) (by decide +kernel) (fun _ _ _ h => h) (Or.inl ⟨by rfl, ?_⟩) (by assumption) ?_
    rotate_left 1
    · (intro w' hSw; go_simp; try with_reducible rfl)
    try simp only [Act.put, List.setIfInBounds_toArray, List.set_cons_zero, List.set_cons_succ]
    clear hHeld
    refine wpAnyH_ready (rs := [29]) (by decide +kernel) (by simp) ?_
    refine AllReadyH.cons rfl (fun K hK => ?_) AllReadyH.nil
    rw [if_pos (by kernel_rfl)]
    go_simp
    go_at_call 22
    refine (HBLK.out _ (HB107.out.trans (HZ2.out.mono HB107.out.size))).mono ?_
    rintro e wd ⟨rfl, hA, hb⟩
    have HZ3 := Lib.hid (HZ2.out.trans (hb.mono HZ2.out.size))
    have HN3 := Lib.hid hA
    clear hb hA
    go_wp2_with fail
    refine hK.out _ _ (HSV.out _ HZ3.out) (fun hHeld => ?_)
    clear hK K
    try simp only [Act.put, List.setIfInBounds_toArray, List.set_cons_zero, List.set_cons_succ]
    clear hHeld
    have HSM3 := Lib.hid (same_eq wd _ _ _ (BS.of_arr0 (n := 512) (cap := 512) (show ArrY wd GI 5 BA from (HZ3.out.block _ (lt_of_block RI107.out)).trans RI107.out) HBL.out) (BS.of_arr0 (n := 512) (cap := 512) HN3.out HBL.out))
    refine wpAnyH_ready (rs := [30]) (by decide +kernel) (by simp) ?_
    refine AllReadyH.cons rfl (fun K hK => ?_) AllReadyH.nil
    rw [if_pos (by kernel_rfl)]
    go_simp
    go_at_call 16
    refine (HSM3.out).mono ?_
    rintro e we ⟨rfl, hwe⟩
    have HZ4 := Lib.hid (show Below ws106.heap.size ws106 we by rw [hwe]; exact HZ3.out)
    clear hwe
    go_wp2_with fail
    refine hK.out _ _ (HSV.out _ HZ4.out) (fun hHeld => ?_)
    clear hK K
    try simp only [Act.put, List.setIfInBounds_toArray, List.set_cons_zero, List.set_cons_succ]
    refine wpAnyH_take (i := 31) (oi := ⟨some 86, _, _, _, _, _⟩) (v := ?_) rfl (by kernel_rfl) (by decide +kernel) (by decide +kernel) (fun _ _ _ h => h) (Or.inl ⟨by rfl, ?_⟩) (by assumption) ?_
    rotate_left 1
    · (intro w' hSw; go_simp; try with_reducible rfl)
    try simp only [Act.put, List.setIfInBounds_toArray, List.set_cons_zero, List.set_cons_succ]
    refine wpAnyH_take (i := 32) (oi := ⟨some 87, _, _, _, _, _⟩) (v := ?_) rfl (by kernel_rfl) (by decide +kernel) (by decide +kernel) (fun _ _ _ h => h) (Or.inl ⟨by rfl, ?_⟩) (by assumption) ?_
    rotate_left 1
    · (intro w' hSw; go_simp; try with_reducible rfl)
    try simp only [Act.put, List.setIfInBounds_toArray, List.set_cons_zero, List.set_cons_succ]
    clear hHeld
    refine wpAnyH_done (by decide +kernel) ?_ _
    refine NoPanic.normal ?_
    have RI108 := Lib.hid ((HZ4.out.block _ (lt_of_block RI107.out)).trans RI107.out)
    have RK108 := Lib.hid ((HZ4.out.block _ (lt_of_block RK107.out)).trans RK107.out)
    have RC108 := Lib.hid ((HZ4.out.block _ (lt_of_block RC107.out)).trans RC107.out)
    have RQ108 := Lib.hid ((HZ4.out.block _ (lt_of_block RNQ.out)).trans RNQ.out)
    have HB108 := Lib.hid (HB107.out.trans (HZ4.out.mono HB107.out.size))
    clear RI107 RK107 RC107 RNQ HB107 HZ0 HZ1 HZ2 HZ3 HN3 HSM3 HFI HBLK HSV
    go_wp2_with (first
      | (with_reducible refine wpList_load_row (o := ⟨some 89, _, _, _, _, _⟩) rfl 28 _ rfl BK rfl 28 KM (0, 0) _ RK108.out Tryd.underlying28 rfl SK.out ?_)
      | (with_reducible refine wpList_load_row (o := ⟨some 90, _, _, _, _, _⟩) rfl 41 _ rfl BQ rfl 41 PL.toArray (0, 0) _ RQ108.out Tryd.underlying41 rfl SPA.out ?_))
    have hox := HOX.out we SA (some ⟨c1, 0, none⟩) 512 512 HB108.out (Bts.arr (show ArrY we c1 5 SA from RC108.out) HSLA.out (by decide))
    rw [HO1.out] at hox
    refine hox.mono ?_
    clear hox
    rintro e w11 ⟨x11, y11, z11, rfl, ht, hb⟩
    have RI109 := Lib.hid ((hb.block _ (lt_of_block RI108.out)).trans RI108.out)
    have RK109 := Lib.hid ((hb.block _ (lt_of_block RK108.out)).trans RK108.out)
    have RC109 := Lib.hid ((hb.block _ (lt_of_block RC108.out)).trans RC108.out)
    have RQ109 := Lib.hid ((hb.block _ (lt_of_block RQ108.out)).trans RQ108.out)
    have HB109 := Lib.hid (HB108.out.trans (hb.mono HB108.out.size))
    have HT11 := Lib.hid ht
    clear RI108 RK108 RC108 RQ108 HB108 hb ht
    have HSM := Lib.hid (same_eq w11 _ _ _ HT11.out.1 (BS.of_arr0 (n := 512) (cap := 512) (show ArrY w11 GI 5 BA from RI109.out) HBL.out))
    go_wp2_with fail
    refine HSM.out.mono ?_
    rintro e wf ⟨rfl, hwf⟩
    rw [hwf]
    clear hwf HSM HT11
    have L11S := Lib.hid (show w.heap.size ≤ w11.heap.size from HB109.out.size)
    have L11I := Lib.hid (lt_of_block RI109.out)
    have L11K := Lib.hid (lt_of_block RK109.out)
    have L11C := Lib.hid (lt_of_block RC109.out)
    have L11Q := Lib.hid (lt_of_block RQ109.out)
    have HBUF := Lib.hid (World.ownsRow_lit (base := w11.heap.size) (e := 5) (size := 1) w11 #[] 0 (Nat.le_refl _) (by unfold maxLen; omega) rfl)
    have HB2 := Lib.hid (show Below w11.heap.size w11 (w11.alloc (.cells #[] 5)) from (Below.refl _ _).alloc (Nat.le_refl _) _)
    have A1 := Lib.hid ((BS.of_arr0 (n := 512) (cap := 512) (show ArrY w11 c1 5 SA from RC109.out) HSLA.out).kept HB2.out)
    have HLE := Lib.hid (show 0 + (SA.map yv).length ≤ 140737488355328 by rw [List.length_map, HSLA.out]; omega)
    go_upto_region 15 with (first
      | (at_builtin; with_reducible refine wpList_append_BS (o := ⟨some 105, _, _, _, _, _⟩) rfl _ _ rfl w11.heap.size (.slice (some ⟨w11.heap.size, 0, none⟩) 0 0) 0 [] rfl HBUF.out (.slice (some ⟨c1, 0, none⟩) 512 512) (SA.map yv) rfl A1.out HLE.out (by simp) ?_; intro v12 w12 ho hg))
    have hb12 := HB2.out.grown hg (by simp) (by intro k hk; simp [Value.ownBlock] at hk; omega)
    rw [List.nil_append, Nat.zero_add, List.length_map, HSLA.out] at ho
    obtain ⟨a12, cap12, rfl, h12, h12m, _⟩ := own_bytes ho HSLA.out
    have RI110 := Lib.hid ((hb12.block _ (lt_of_block RI109.out)).trans RI109.out)
    have RK110 := Lib.hid ((hb12.block _ (lt_of_block RK109.out)).trans RK109.out)
    have RC110 := Lib.hid ((hb12.block _ (lt_of_block RC109.out)).trans RC109.out)
    have RQ110 := Lib.hid ((hb12.block _ (lt_of_block RQ109.out)).trans RQ109.out)
    have HB110 := Lib.hid (HB109.out.trans (hb12.mono HB109.out.size))
    clear RI109 RK109 RC109 RQ109 HB109 hg hb12 A1 HBUF HB2 HLE
    have ho2 := ho
    rcases ho2.2 with ⟨hh, h0⟩ | ⟨g, cap', cur, hh, hge, _, _⟩
    · omega
    injection hh with e1 e2 e3
    subst e1
    clear e3 h12m ho2
    have hst := fun u => (ho.stored j u).1
    have ci : w12.cell? ⟨g, j, none⟩ = some (.int .u8 (yv (SA.getD j 0))) := by
      have hjl := HAJ.out.2
      rw [ho.cellAt j (by omega), List.getElem?_map, List.getElem?_map]
      simp [List.getD, show j < SA.length by rw [HSLA.out]; exact hjl]
    have fi := ho.frozenAt j
    have hx := yv_xor (SA.getD j 0) tb
    have hj := HJ.out
    have t0 : (0 : Int) ≤ (at2 : Int) := HTB.out.1
    have t1 : (at2 : Int) ≤ 65535 := HTB.out.2
    have jI : (j : Int) < 512 := by have := HAJ.out.2; omega
    have j0 : (0 : Int) ≤ (j : Int) := by omega
    have HOW := Lib.hid (show (w12.setCell ⟨g, j, none⟩ (.int .u8 (yv (SA.getD j 0 ^^^ tb)))).ownsRow w11.heap.size 5 1 (.slice (some ⟨g, 0, none⟩) 512 cap12) 512 (((SA.set j (SA.getD j 0 ^^^ tb)).map yv).map (Value.int .u8)) by rw [List.map_set, List.map_set]; exact hst _)
    have HGE := Lib.hid hge
    have HDZ := Lib.hid (fun (h : tb = 0) => show SA.set j (SA.getD j 0 ^^^ tb) = SA by
      have hjl : j < SA.length := by rw [HSLA.out]; exact HAJ.out.2
      rw [h, show ∀ z : BitVec 8, z ^^^ 0 = z from fun z => BitVec.xor_zero]
      apply List.ext_getElem?
      intro i
      rw [List.getElem?_set]
      by_cases hij : j = i
      · subst hij; simp [hjl, List.getD]
      · rw [if_neg hij])
    have HDL := Lib.hid (show (SA.set j (SA.getD j 0 ^^^ tb)).length = 512 by rw [List.length_set]; exact HSLA.out)
    clear ho hst hge h12 HTB HJ
    generalize SA.set j (SA.getD j 0 ^^^ tb) = DA at *
    generalize SA.getD j 0 = sj at *
    have HW13 := Lib.hid (fun (q : Nat) (hq : q < w11.heap.size) => heap_setCell_other w12 ⟨g, j, none⟩ q (.int .u8 (yv (sj ^^^ tb))) (by have := HGE.out; simp; omega))
    have HB13 := Lib.hid (HB110.out.setCell (p := ⟨g, j, none⟩) (show w.heap.size ≤ g by have := HGE.out; have := L11S.out; omega) (.int .u8 (yv (sj ^^^ tb))))
    have ZI := Lib.hid ((HW13.out GI (L11I.out)).trans RI110.out)
    have ZK := Lib.hid ((HW13.out BK (L11K.out)).trans RK110.out)
    have ZC := Lib.hid ((HW13.out c1 (L11C.out)).trans RC110.out)
    have ZQ := Lib.hid ((HW13.out BQ (L11Q.out)).trans RQ110.out)
    go_upto_region 16 with fail
    clear ci fi hx hj t0 t1 jI j0 HW13 HB110 RI110 RK110 RC110 RQ110
    generalize World.setCell _ _ _ = w13 at *
    obtain ⟨a13, cap13, hv13, h13, h13m, B13⟩ := own_bytes HOW.out HDL.out
    injection hv13 with e4 e5 e6
    subst e4
    subst e6
    have HT13 := Lib.hid (show Bts w13 (some ⟨g, 0, none⟩) 512 cap12 DA from ⟨B13, HDL.out, h13, h13m⟩)
    clear h13 h13m B13 HOW e5
    go_wp2_with (first
      | (with_reducible refine wpList_load_row (o := ⟨some 118, _, _, _, _, _⟩) rfl 28 _ rfl BK rfl 28 KM (0, 0) _ ZK.out Tryd.underlying28 rfl SK.out ?_)
      | (with_reducible refine wpList_load_row (o := ⟨some 119, _, _, _, _, _⟩) rfl 41 _ rfl BQ rfl 41 PL.toArray (0, 0) _ ZQ.out Tryd.underlying41 rfl SPA.out ?_))
    have hox := HOX.out w13 DA (some ⟨g, 0, none⟩) 512 cap12 HB13.out HT13.out
    obtain ⟨OA, OE, hoa⟩ : ∃ S E, openA k PTA DA = (S, E) := ⟨_, _, rfl⟩
    rw [hoa] at hox
    have HOA := Lib.hid hoa
    refine hox.mono ?_
    clear hox hoa
    rintro e w14 ⟨x14, y14, z14, rfl, ht, hb⟩
    have RI111 := Lib.hid ((hb.block _ (lt_of_block ZI.out)).trans ZI.out)
    have RK111 := Lib.hid ((hb.block _ (lt_of_block ZK.out)).trans ZK.out)
    have RC111 := Lib.hid ((hb.block _ (lt_of_block ZC.out)).trans ZC.out)
    have RQ111 := Lib.hid ((hb.block _ (lt_of_block ZQ.out)).trans ZQ.out)
    have TD111 := Lib.hid (HT13.out.below hb)
    have HB111 := Lib.hid (HB13.out.trans (hb.mono HB13.out.size))
    have HT14 := Lib.hid ht
    clear ZI ZK ZC ZQ HT13 HB13 hb ht
    by_cases htz : tb = 0
    · have hy : (yv tb == 0) = true := by rw [htz]; decide
      have hsa : DA = SA := HDZ.out htz
      have hoe : (OA, OE) = (BA, 0) := by rw [← HOA.out, hsa]; exact HO1.out
      injection hoe with ho1 ho2
      subst ho1 ho2
      have HSM := Lib.hid (same_eq w14 _ _ _ HT14.out.1 (BS.of_arr0 (n := 512) (cap := 512) (show ArrY w14 GI 5 OA from RI111.out) HBL.out))
      clear htz hsa
      go_wp2_with fail
      refine HSM.out.mono ?_
      rintro e wg ⟨rfl, hwg⟩
      rw [hwg]
      clear hwg
      go_wp2_with fail
      go_ret
      exact ⟨by simp, HB111.out⟩
    · have hy : (yv tb == 0) = false := by
        have key : ∀ z : BitVec 8, yv z = 0 → z = 0 := by decide +kernel
        have : yv tb ≠ 0 := fun h => htz (key tb h)
        simpa using this
      by_cases hh : hashS (DA.map yv) = HS
      · have hoe : OE = 0 := by
          have h1 : openA k PTA DA = (OA, OE) := HOA.out
          unfold openA at h1
          rw [if_neg (by have := HDL.out; omega), fits_len _ _ HDL.out, HPS.out, if_pos (by simpa using hh)] at h1
          injection h1 with _ h2
          exact h2.symm
        subst hoe
        have hsu := HSU.out w14 DA (some ⟨g, 0, none⟩) 512 cap12 HB111.out TD111.out HDL.out
        rw [hh] at hsu
        have HS1 := Lib.hid hsu
        have HSC := Lib.hid (fun (W : World) (hb : Below w14.heap.size w14 W) => by
          have h := HSU.out W SA (some ⟨c1, 0, none⟩) 512 512 (HB111.out.trans (hb.mono HB111.out.size)) (Bts.arr (show ArrY W c1 5 SA from (hb.block _ (lt_of_block RC111.out)).trans RC111.out) HSLA.out (by decide)) HSLA.out
          rw [HHS.out] at h
          exact h)
        clear htz hh hsu HO2 HO1 HFT HOX HDZ HOA HPS HPP HPRA
        go_wp2_with fail
        refine HS1.out.mono ?_
        rintro e w15 ⟨rfl, hb15⟩
        have HB15 := Lib.hid hb15
        clear hb15
        go_wp2_with fail
        refine (HSC.out _ HB15.out).mono ?_
        rintro e w16 ⟨rfl, hb16⟩
        have HE16 := Lib.hid (HB111.out.trans ((HB15.out.trans (hb16.mono HB15.out.size)).mono HB111.out.size))
        clear hb16
        go_wp2_with (first
          | (with_reducible refine wpList_bin_g (op := ⟨some 145, _, _, _, _, _⟩) (by kernel_rfl) .eql 26 _ _ _ rfl (.agg (u8s HS)) (.agg (u8s HS)) (.bool true) rfl rfl (HQL.out 142 144) ?_))
        go_ret
        exact ⟨by simp, HE16.out⟩
      · have hoe : (OA, OE) = ([], 5) := by rw [← HOA.out]; exact HO2.out DA HDL.out hh
        injection hoe with ho1 ho2
        subst ho1 ho2
        have hy14 : y14 = 0 := by have := HT14.out.2.1; simpa using this.symm
        subst hy14
        clear htz hh
        go_wp2_with fail
        go_ret
        exact ⟨by simp, HB111.out⟩
set_option maxRecDepth 100000 in
theorem lifted (os : Os) (started : os.Started) (H : Type) (enc : TypeId × Value → H) :
    ReturnsInHanded {} Tryd.checked os 6 .any (fun w args => (Rows.sealBackSpec.pre enc Tryd.prog Tryd.f6 [] false w args ∧ laidMetH Tryd.prog [("banyan/sha.roundNumbers", Rows.laid_banyan_sha_roundNumbers)] w) ∧ sizedMet enc Tryd.prog Tryd.f6 (OpenSpec.ofChange Rows.sealBackSpec) false w args)
      (Rows.sealBackSpec.post enc Tryd.prog Tryd.f6 false true false false) := by
  refine returnsInHanded_of_change_and (C := Tryd.checked) (X := fun w _ => laidMetH Tryd.prog [("banyan/sha.roundNumbers", Rows.laid_banyan_sha_roundNumbers)] w) (fun _ _ _ hh h => h.of_heap hh) own2 started (by kernel_rfl) Tryd.func6
    (ChangeSpec.witness_shaped (enc := enc) (C := Tryd.checked) (os := os) (X := fun w _ => laidMetH Tryd.prog [("banyan/sha.roundNumbers", Rows.laid_banyan_sha_roundNumbers)] w) false (World.doorLaid Tryd.prog 400 os) #[.agg ([Value.slice none 0 0] ++ ([Value.slice none 0 0] ++ ([Value.int .u16 0] ++ ([Value.int .u16 0] ++ ([Value.int .u8 0]))))).toArray] 8 rfl (World.shaped_of_RefB (by kernel_rfl) (by kernel_rfl)) (by kernel_rfl) (by kernel_rfl) (by kernel_rfl) (door_met os _)) ?_
  intro W base args ds gs before hval0 hW _ hsz0 hL _
  have hval : ∀ (j : Nat) t v, Tryd.f6.params[j]? = some t → args[j]? = some v → Value.okWide Tryd.prog W .any base t v := hval0
  have hsz : (DataW.weightsEach Tryd.prog (Tryd.f6.params.toList ++ Rows.sealBackSpec.plain.varTypes Tryd.prog) (ds ++ gs)).all (· ≤ reachBytes) = true := hsz0
  clear hsz0
  have hW' := hW
  obtain ⟨p, q, hA0, hV, rfl, hfz, hnd⟩ := hW
  have hA : DataW.TrodAll enc Tryd.prog W 0 (fun _ => true) true Tryd.f6.params.toList args.toList ds p := hA0
  rw [Tryd.params6] at hA hval hsz
  obtain ⟨v0, vs0, d0, ds0, p0, q0, hargs, rfl, rfl, h0, r0⟩ := trodAll_cons hA
  obtain ⟨rfl, rfl, rfl⟩ := trodAll_nil r0
  obtain rfl : args = #[v0] := by cases args; simp_all
  obtain ⟨rfl, rfl⟩ := trodVars_none hV
  have k0 := h0
  have lt0 : ∀ x ∈ p0, x.block < W.heap.size := by obtain ⟨m, hm⟩ := k0; exact DataW.trod_lt m _ _ _ hm
  obtain ⟨maa, mac, ma, ba, bc, b, ad, at', tu, rfl, qf⟩ := par_turned12 (j := 0) (hval 0 58 v0 rfl rfl) h0 hsz rfl rfl
  have hK := of_laid hL
  clear hA0 hval0
  refine (walk W maa mac ma ba bc b ad at' tu qf hK).mono fun e W' ⟨he, bel⟩ => ?_
  subst he
  exact ⟨_, rfl, _, _, _, [], _, [], hW', trodAll_mk1 (shut_bool Tryd.underlying4 _), (trodAll_cons_mk (Below.trod laidOut2 (by kernel_rfl) (of_decide_eq_true (by kernel_rfl)) k0 bel lt0) trodAll_mk0), rfl, bel.frame _, fun h => by cases h⟩

theorem over : Rows.SealBackSaid :=
  OpenClaim.holds_of_wide 6 Tryd.f6 rfl rfl rfl rfl rfl rfl rfl ⟨rfl, rfl, rfl, rfl, rfl⟩ rfl rfl rfl rfl rfl (by kernel_rfl) Tryd.func6 (by kernel_rfl)
    (of_decide_eq_true (by kernel_rfl)) (by unfold Func.isWrapper; first | (rw [if_pos (by decide +kernel)]; kernel_rfl) | (rw [if_neg (by decide +kernel)]; exact ⟨rfl, rfl⟩))
    (fun os started H enc _ => lifted os started H enc)

/-- The statement. -/
theorem proved : Rows.SealBackCardSaid :=
  Claim7.holds_tied_plain_at .later [] [.data] true (true, "0131f9f1a1f02ebf5a16687d2fe8903395483cdb43346dae7a1c73827a36235e") false
    over (fun _ h => by cases h) (by kernel_rfl) (fun _ h => by cases h) sealBack_row_tie rfl ⟨rfl, rfl⟩ (by kernel_rfl) rfl
    (fun f fn hf hfn => by
      obtain rfl : f = 6 := Option.some.inj ((show Tryd.prog.funcNamed "banyan/banyanlaw12.SealBack" = some 6 by kernel_rfl).symm.trans hf) |>.symm
      obtain rfl : fn = Tryd.f6 := (Option.some.inj (Tryd.func6.symm.trans hfn)).symm
      exact ⟨by kernel_rfl, fun j t ht => by
        rw [Tryd.params6] at ht
        have hm : t ∈ [58] := by simpa using Array.mem_of_getElem? ht
        have hall : ([58].all fun u => !Tryd.prog.wantsStandIn u) = true := by kernel_rfl
        exact (show Tryd.prog.wantsStandIn t = false by simpa using List.all_eq_true.1 hall t hm)⟩)
    (by kernel_rfl)
#print axioms proved
end Go.Proofs.YtfgdddejpdjllaaDoor.sealBack
