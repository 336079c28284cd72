/-
  'DirBack' returns true at every input, and each argument reads behind the call as it read before. Conditions: none.
-/
import Derived.Test.YtkafabcklohlmaaRows
import Derived.Test.YtkafabcklohlmaaAes0
import Derived.Test.YtkafabcklohlmaaIo
import Derived.Test.YtkafabcklohlmaaIw
namespace Go.Proofs.Ytkafabcklohlmaa.dirBack
open Go.ChangeShapes Go.WideShapes Go.ChangeAt Go.RowKit
set_option linter.unusedVariables false


set_option maxRecDepth 100000 in
set_option maxHeartbeats 3200000 in
theorem walk (w : World) (s0 : SetV) (ok0 : SetOk s0) (ka1 va1 : ByteArray) (kz1 : ka1.size ≤ 140737488351232) (vz1 : va1.size ≤ 140737488351232) :
    Calls Try.prog 5 #[.agg (setRow s0).toArray, .agg #[.string ka1, .string va1]] w fun e w' => e = .returned (.bool true) ∧ Below w.heap.size w w' := by
  have HAL := Lib.hid (fun W => alive15 W)
  obtain ⟨AR, har⟩ := setR s0
  rw [har.eq]
  have HAR := Lib.hid har
  have HO := Lib.hid ok0
  obtain ⟨hx, hy, hb⟩ := two_rows w (.cells AR 38) (.cells #[.string ka1, .string va1] 45)
  have HX := Lib.hid hx
  have HY := Lib.hid hy
  have HB := Lib.hid hb
  have HKZ := Lib.hid (And.intro kz1 vz1)
  have kI : (ka1.size : Int) ≤ 140737488351232 := by omega
  have vI : (va1.size : Int) ≤ 140737488351232 := by omega
  have k0 : (0 : Int) ≤ (ka1.size : Int) := by omega
  have v0 : (0 : Int) ≤ (va1.size : Int) := by omega
  clear har hx hy hb ok0 kz1 vz1
  obtain ⟨ZS, hzs⟩ := setR zeroSet
  have hz := zero_set
  rw [hzs.eq] at hz
  have HZ := Lib.hid hzs
  clear hzs
  go_enter Try.func5, Try.ntmps5
  go_upto_region 1 with fail
  generalize World.alloc (World.alloc w (.cells AR 38)) (.cells #[.string ka1, .string va1] 45) = wb at *
  generalize hYY : w.heap.size + 1 = Y at *
  generalize hXX : w.heap.size = X at *
  have HXS := Lib.hid (show X ≤ wb.heap.size from hXX ▸ HB.out.size)
  clear hYY
  go_wp2_with fail
  refine (HAL.out _).mono ?_
  rintro e w1 ⟨rfl, hb1⟩
  have HXS1 := Lib.hid (Nat.le_trans HXS.out hb1.size)
  have HX1 := Lib.hid ((hb1.block _ (lt_of_block HX.out)).trans HX.out)
  have HY1 := Lib.hid ((hb1.block _ (lt_of_block HY.out)).trans HY.out)
  have HB1 := Lib.hid (HB.out.trans (hb1.mono HXS.out))
  clear hb1
  clear HAL HXS HX HY HB
  have hls := ls_one (new15 w1 (.cells AR 38)) HAR.out
  have HGR := Lib.hid (great15 _ [s0] _ hls (by simp) (fun s hs => by rw [List.mem_singleton.1 hs]; exact HO.out))
  have HLI := Lib.hid (show (Instr.buildSlice 22 1 #[(0, .agg AR)]).run Try.prog w1 = .ok (.slice (some ⟨w1.heap.size, 0, none⟩) 1 1) (World.alloc w1 (.cells AR 38)) from HAR.out.eq ▸ lit_set _ w1)
  have HBL := Lib.hid (ba15 w1 (.cells AR 38))
  clear hls
  go_wp2_with (first
    | (with_reducible refine wpList_load_row (o := ⟨some 15, _, _, _, _, _⟩) rfl 38 _ rfl X rfl 38 AR (0, 0) _ HX1.out Try.underlying38 rfl HAR.out.sz ?_)
    | (refine wpList_lit_run (o := ⟨some 16, _, _, _, _, _⟩) rfl _ _ _ rfl #[(0, .agg AR)] (by simp [Act.eval, Act.put]) _ _ HLI.out ?_))
  refine HGR.out.mono ?_
  rintro e w2 ⟨hg, hb2'⟩
  have hb2 := bt15 HBL.out hb2'
  have HXS2 := Lib.hid (Nat.le_trans HXS1.out hb2.size)
  have HX2 := Lib.hid ((hb2.block _ (lt_of_block HX1.out)).trans HX1.out)
  have HY2 := Lib.hid ((hb2.block _ (lt_of_block HY1.out)).trans HY1.out)
  have HB2 := Lib.hid (HB1.out.trans (hb2.mono HXS1.out))
  clear hb2
  clear hb2' HGR HBL HLI HX1 HY1 HB1 HXS1
  rcases hg with rfl | ⟨rfl, _, hg2⟩
  · have hbt : (true : Bool) = true := rfl
    clear hbt
    go_wp2_with fail
    go_ret
    exact ⟨rfl, by rw [hXX]; exact HB2.out⟩
  · have HNM := Lib.hid (hg2 s0 (List.mem_singleton.2 rfl))
    have c0 := cell_of_row w2 Y 0 _ _ _ HY2.out
    have c1 := cell_of_row w2 Y 1 _ _ _ HY2.out
    clear hg2
    by_cases h1000 : ka1.size + va1.size ≤ 1000
    · have hI : ¬ ((1000 : Int) < (ka1.size : Int) + (va1.size : Int)) := by omega
      clear h1000
      have HP := Lib.hid (fun W => pput15 s0 HO.out W)
      unfold KvPost at HP
      rw [HAR.out.eq] at HP
      by_cases hok : okS s0 = true
      · rw [show putD s0 = ((s0.nm, putV s0), 0) by unfold putD; rw [if_pos hok]] at HP
        have hps := (ok_parts hok).1
        have hpz := putV_size s0
        have HG1 := Lib.hid (fun W => pget15 s0.nm (putV s0) HO.out.1 (by omega) W)
        unfold SetPost at HG1
        rw [get_put hok, HAR.out.eq] at HG1
        have heq := eq_set s0 s0 HO.out HO.out
        rw [HAR.out.eq, decide_eq_true rfl] at heq
        have HEQ := Lib.hid heq
        have hI96 : ¬ ((96 : Int) < ((putV s0).size : Int)) := by omega
        clear hps hpz hok heq
        generalize hPV : putV s0 = PV at *
        clear hPV
        go_wp2_with (first
          | (with_reducible refine wpList_load_row (o := ⟨some 29, _, _, _, _, _⟩) rfl 38 _ rfl X rfl 38 AR (0, 0) _ HX2.out Try.underlying38 rfl HAR.out.sz ?_))
        refine (HP.out _).mono ?_
        rintro e w3 ⟨rfl, hb3⟩
        have HXS3 := Lib.hid (Nat.le_trans HXS2.out hb3.size)
        have HX3 := Lib.hid ((hb3.block _ (lt_of_block HX2.out)).trans HX2.out)
        have HY3 := Lib.hid ((hb3.block _ (lt_of_block HY2.out)).trans HY2.out)
        have HB3 := Lib.hid (HB2.out.trans (hb3.mono HXS2.out))
        clear hb3
        clear HP HX2 HY2 HB2 HXS2 c0 c1
        go_upto_region 6 with fail
        generalize hWs : World.alloc w3 (.cells #[.string s0.nm, .string PV] 45) = w4
        have hbz := ba15 w3 (.cells #[.string s0.nm, .string PV] 45)
        have hnz := new15 w3 (.cells #[.string s0.nm, .string PV] 45)
        rw [hWs] at hbz hnz
        have HRw4 := Lib.hid hnz
        have HXS4 := Lib.hid (Nat.le_trans HXS3.out hbz.size)
        have HX4 := Lib.hid ((hbz.block _ (lt_of_block HX3.out)).trans HX3.out)
        have HY4 := Lib.hid ((hbz.block _ (lt_of_block HY3.out)).trans HY3.out)
        have HB4 := Lib.hid (HB3.out.trans (hbz.mono HXS3.out))
        clear hbz
        clear hWs hnz
        generalize w3.heap.size = U1 at *
        clear HX3 HY3 HB3 HXS3
        go_wp2_with (first
          | (with_reducible refine wpList_load_row (o := ⟨some 36, _, _, _, _, _⟩) rfl 45 _ rfl U1 rfl 45 #[.string s0.nm, .string PV] (0, 0) _ HRw4.out Try.underlying45 rfl (size_kv _ _) ?_))
        refine (HG1.out _).mono ?_
        rintro e w5 ⟨rfl, hb5⟩
        have HR5 := Lib.hid ((hb5.block _ (lt_of_block HRw4.out)).trans HRw4.out)
        have HXS5 := Lib.hid (Nat.le_trans HXS4.out hb5.size)
        have HX5 := Lib.hid ((hb5.block _ (lt_of_block HX4.out)).trans HX4.out)
        have HY5 := Lib.hid ((hb5.block _ (lt_of_block HY4.out)).trans HY4.out)
        have HB5 := Lib.hid (HB4.out.trans (hb5.mono HXS4.out))
        clear hb5
        clear HG1 HX4 HY4 HB4 HXS4 HRw4
        go_upto_region 8 with (first
          | (with_reducible refine wpList_store_row (o := ⟨none, .store _ (.tmp 7) _, _, _, _, _⟩) rfl 38 _ _ rfl w5.heap.size AR rfl rfl 38 ZS (heap_alloc_new w5 _) HAR.out.sz (HZ.out.same HAR.out) HAR.out.one ?_))
        generalize hWs : World.setRow _ w5.heap.size _ = w6
        obtain ⟨hnz, hbz⟩ := fresh15 w5 ZS AR 38 w6 hWs.symm
        have HRw6 := Lib.hid hnz
        have HR6 := Lib.hid ((hbz.block _ (lt_of_block HR5.out)).trans HR5.out)
        have HXS6 := Lib.hid (Nat.le_trans HXS5.out hbz.size)
        have HX6 := Lib.hid ((hbz.block _ (lt_of_block HX5.out)).trans HX5.out)
        have HY6 := Lib.hid ((hbz.block _ (lt_of_block HY5.out)).trans HY5.out)
        have HB6 := Lib.hid (HB5.out.trans (hbz.mono HXS5.out))
        clear hbz
        clear hWs hnz
        generalize w5.heap.size = U2 at *
        clear HX5 HY5 HB5 HXS5 HR5
        have s1 : (s0.nm.toList == s0.nm.toList) = true := by simp
        have hEQ := HEQ.out
        have u0 := cell_of_row w6 U1 0 _ _ _ HR6.out
        have u1 := cell_of_row w6 U1 1 _ _ _ HR6.out
        obtain ⟨x0, _, _, _⟩ := set_atR HX6.out HAR.out
        go_upto_region 10 with (first
          | (with_reducible refine wpList_load_guarded (o := ⟨some 43, _, _, _, _, _⟩) (by kernel_rfl) 38 _ rfl U2 rfl 38 AR (0, 0) _ HRw6.out Try.underlying38 rfl HAR.out.sz ?_)
          | (with_reducible refine wpList_load_guarded (o := ⟨some 44, _, _, _, _, _⟩) (by kernel_rfl) 38 _ rfl X rfl 38 AR (0, 0) _ HX6.out Try.underlying38 rfl HAR.out.sz ?_))
        clear s1 hEQ u0 u1 x0 HEQ
        have HG := Lib.hid (fun W => pget15 ka1 va1 HKZ.out.1 HKZ.out.2 W)
        unfold SetPost at HG
        by_cases hE : (getK ka1 va1).2 = 0
        · obtain ⟨hpg, hok⟩ := put_get hE
          have HP2 := Lib.hid (fun W => pput15 (getK ka1 va1).1 (getK_ok HKZ.out.1) W)
          have HC := Lib.hid (fun W => pcheck15 (getK ka1 va1).1 (getK_ok HKZ.out.1) W)
          unfold KvPost at HP2
          rw [hpg] at HP2
          rw [show checkS (getK ka1 va1).1 = 0 from checkS_0.2 hok] at HC
          obtain ⟨BR, hbr⟩ := setR (getK ka1 va1).1
          have HBR := Lib.hid hbr
          rw [hbr.eq] at HG HP2 HC
          rw [hE] at HG
          clear hbr hpg hok hE
          go_wp2_with (first
            | (with_reducible refine wpList_load_row (o := ⟨some 61, _, _, _, _, _⟩) rfl 45 _ rfl Y rfl 45 #[.string ka1, .string va1] (0, 0) _ HY6.out Try.underlying45 rfl (size_kv _ _) ?_))
          refine (HG.out _).mono ?_
          rintro e wg ⟨rfl, hbg⟩
          have HXSg := Lib.hid (Nat.le_trans HXS6.out hbg.size)
          have HXg := Lib.hid ((hbg.block _ (lt_of_block HX6.out)).trans HX6.out)
          have HYg := Lib.hid ((hbg.block _ (lt_of_block HY6.out)).trans HY6.out)
          have HBg := Lib.hid (HB6.out.trans (hbg.mono HXS6.out))
          clear hbg
          go_upto_region 11 with (first
            | (with_reducible refine wpList_store_row (o := ⟨none, .store _ (.tmp 9) _, _, _, _, _⟩) rfl 38 _ _ rfl wg.heap.size BR rfl rfl 38 ZS (heap_alloc_new wg _) HBR.out.sz (HZ.out.same HBR.out) HBR.out.one ?_))
          generalize hWs : World.setRow _ wg.heap.size _ = wh
          obtain ⟨hnz, hbz⟩ := fresh15 wg ZS BR 38 wh hWs.symm
          have HRwh := Lib.hid hnz
          have HXSh := Lib.hid (Nat.le_trans HXSg.out hbz.size)
          have HXh := Lib.hid ((hbz.block _ (lt_of_block HXg.out)).trans HXg.out)
          have HYh := Lib.hid ((hbz.block _ (lt_of_block HYg.out)).trans HYg.out)
          have HBh := Lib.hid (HBg.out.trans (hbz.mono HXSg.out))
          clear hbz
          clear hWs hnz
          generalize wg.heap.size = V1 at *
          go_wp2_with (first
            | (with_reducible refine wpList_load_row (o := ⟨some 71, _, _, _, _, _⟩) rfl 38 _ rfl V1 rfl 38 BR (0, 0) _ HRwh.out Try.underlying38 rfl HBR.out.sz ?_))
          refine (HP2.out _).mono ?_
          rintro e wi ⟨rfl, hbi⟩
          have HRi := Lib.hid ((hbi.block _ (lt_of_block HRwh.out)).trans HRwh.out)
          have HXSi := Lib.hid (Nat.le_trans HXSh.out hbi.size)
          have HXi := Lib.hid ((hbi.block _ (lt_of_block HXh.out)).trans HXh.out)
          have HYi := Lib.hid ((hbi.block _ (lt_of_block HYh.out)).trans HYh.out)
          have HBi := Lib.hid (HBh.out.trans (hbi.mono HXSh.out))
          clear hbi
          clear HRwh HP2 HG
          go_upto_region 14 with fail
          generalize hWs : World.alloc wi (.cells #[.string ka1, .string va1] 45) = wj
          have hbz := ba15 wi (.cells #[.string ka1, .string va1] 45)
          have hnz := new15 wi (.cells #[.string ka1, .string va1] 45)
          rw [hWs] at hbz hnz
          have HRwj := Lib.hid hnz
          have HRj := Lib.hid ((hbz.block _ (lt_of_block HRi.out)).trans HRi.out)
          have HXSj := Lib.hid (Nat.le_trans HXSi.out hbz.size)
          have HXj := Lib.hid ((hbz.block _ (lt_of_block HXi.out)).trans HXi.out)
          have HYj := Lib.hid ((hbz.block _ (lt_of_block HYi.out)).trans HYi.out)
          have HBj := Lib.hid (HBi.out.trans (hbz.mono HXSi.out))
          clear hbz
          clear hWs hnz
          generalize wi.heap.size = V2 at *
          have s1 : (ka1.toList == ka1.toList) = true := by simp
          have s2 : (va1.toList == va1.toList) = true := by simp
          go_wp2_with (first
            | (with_reducible refine wpList_load_guarded (o := ⟨some 78, _, _, _, _, _⟩) (by kernel_rfl) 45 _ rfl V2 rfl 45 #[.string ka1, .string va1] (0, 0) _ HRwj.out Try.underlying45 rfl (size_kv _ _) ?_)
            | (with_reducible refine wpList_load_guarded (o := ⟨some 79, _, _, _, _, _⟩) (by kernel_rfl) 45 _ rfl Y rfl 45 #[.string ka1, .string va1] (0, 0) _ HYj.out Try.underlying45 rfl (size_kv _ _) ?_)
            | (with_reducible refine wpList_load_guarded (o := ⟨some 83, _, _, _, _, _⟩) (by kernel_rfl) 38 _ rfl V1 rfl 38 BR (0, 0) _ HRj.out Try.underlying38 rfl HBR.out.sz ?_))
          refine (HC.out _).mono ?_
          rintro e wk ⟨rfl, hbk⟩
          have HBk := Lib.hid (HBj.out.trans (hbk.mono HXSj.out))
          clear hbk HC
          go_wp2_with fail
          go_ret
          exact ⟨rfl, by rw [hXX]; exact HBk.out⟩
        · have hge := get_err hE
          rw [hge, HZ.out.eq] at HG
          have hbn := build_set0
          have heq := eq_set zeroSet zeroSet setok_zero setok_zero
          rw [HZ.out.eq, decide_eq_true rfl] at heq
          rw [HZ.out.eq] at hbn
          clear hge hE
          go_wp2_with (first
            | (with_reducible refine wpList_load_row (o := ⟨some 61, _, _, _, _, _⟩) rfl 45 _ rfl Y rfl 45 #[.string ka1, .string va1] (0, 0) _ HY6.out Try.underlying45 rfl (size_kv _ _) ?_))
          refine (HG.out _).mono ?_
          rintro e wg ⟨rfl, hbg⟩
          have HXSg := Lib.hid (Nat.le_trans HXS6.out hbg.size)
          have HXg := Lib.hid ((hbg.block _ (lt_of_block HX6.out)).trans HX6.out)
          have HYg := Lib.hid ((hbg.block _ (lt_of_block HY6.out)).trans HY6.out)
          have HBg := Lib.hid (HB6.out.trans (hbg.mono HXS6.out))
          clear hbg
          go_upto_region 11 with (first
            | (with_reducible refine wpList_store_row (o := ⟨none, .store _ (.tmp 9) _, _, _, _, _⟩) rfl 38 _ _ rfl wg.heap.size ZS rfl rfl 38 ZS (heap_alloc_new wg _) HZ.out.sz (HZ.out.same HZ.out) HZ.out.one ?_))
          generalize hWs : World.setRow _ wg.heap.size _ = wh
          obtain ⟨hnz, hbz⟩ := fresh15 wg ZS ZS 38 wh hWs.symm
          have HRwh := Lib.hid hnz
          have HXSh := Lib.hid (Nat.le_trans HXSg.out hbz.size)
          have HXh := Lib.hid ((hbz.block _ (lt_of_block HXg.out)).trans HXg.out)
          have HYh := Lib.hid ((hbz.block _ (lt_of_block HYg.out)).trans HYg.out)
          have HBh := Lib.hid (HBg.out.trans (hbz.mono HXSg.out))
          clear hbz
          clear hWs hnz
          generalize wg.heap.size = V1 at *
          go_wp2_with (first
            | (with_reducible refine wpList_load_row (o := ⟨some 67, _, _, _, _, _⟩) rfl 38 _ rfl V1 rfl 38 ZS (0, 0) _ HRwh.out Try.underlying38 rfl HZ.out.sz ?_)
            | (with_reducible refine wpList_build_run (o := ⟨some 68, _, _, _, _, _⟩) rfl 38 _ rfl #[] (by simp) (.agg ZS) (hbn _) ?_))
          go_ret
          exact ⟨rfl, by rw [hXX]; exact HBh.out⟩
      · rw [show putD s0 = ((noS, noS), 4) by unfold putD; rw [if_neg hok]] at HP
        clear hok
        go_wp2_with (first
          | (with_reducible refine wpList_load_row (o := ⟨some 29, _, _, _, _, _⟩) rfl 38 _ rfl X rfl 38 AR (0, 0) _ HX2.out Try.underlying38 rfl HAR.out.sz ?_))
        refine (HP.out _).mono ?_
        rintro e w3 ⟨rfl, hb3⟩
        have HXS3 := Lib.hid (Nat.le_trans HXS2.out hb3.size)
        have HX3 := Lib.hid ((hb3.block _ (lt_of_block HX2.out)).trans HX2.out)
        have HY3 := Lib.hid ((hb3.block _ (lt_of_block HY2.out)).trans HY2.out)
        have HB3 := Lib.hid (HB2.out.trans (hb3.mono HXS2.out))
        clear hb3
        clear HP HX2 HY2 HB2 HXS2 c0 c1
        go_upto_region 6 with fail
        generalize hWs : World.alloc w3 (.cells #[.string noS, .string noS] 45) = w4
        have hbz := ba15 w3 (.cells #[.string noS, .string noS] 45)
        have hnz := new15 w3 (.cells #[.string noS, .string noS] 45)
        rw [hWs] at hbz hnz
        have HRw4 := Lib.hid hnz
        have HXS4 := Lib.hid (Nat.le_trans HXS3.out hbz.size)
        have HX4 := Lib.hid ((hbz.block _ (lt_of_block HX3.out)).trans HX3.out)
        have HY4 := Lib.hid ((hbz.block _ (lt_of_block HY3.out)).trans HY3.out)
        have HB4 := Lib.hid (HB3.out.trans (hbz.mono HXS3.out))
        clear hbz
        clear hWs hnz
        generalize w3.heap.size = U1 at *
        clear HX3 HY3 HB3 HXS3
        go_upto_region 10 with fail
        have HG := Lib.hid (fun W => pget15 ka1 va1 HKZ.out.1 HKZ.out.2 W)
        unfold SetPost at HG
        by_cases hE : (getK ka1 va1).2 = 0
        · obtain ⟨hpg, hok⟩ := put_get hE
          have HP2 := Lib.hid (fun W => pput15 (getK ka1 va1).1 (getK_ok HKZ.out.1) W)
          have HC := Lib.hid (fun W => pcheck15 (getK ka1 va1).1 (getK_ok HKZ.out.1) W)
          unfold KvPost at HP2
          rw [hpg] at HP2
          rw [show checkS (getK ka1 va1).1 = 0 from checkS_0.2 hok] at HC
          obtain ⟨BR, hbr⟩ := setR (getK ka1 va1).1
          have HBR := Lib.hid hbr
          rw [hbr.eq] at HG HP2 HC
          rw [hE] at HG
          clear hbr hpg hok hE
          go_wp2_with (first
            | (with_reducible refine wpList_load_row (o := ⟨some 61, _, _, _, _, _⟩) rfl 45 _ rfl Y rfl 45 #[.string ka1, .string va1] (0, 0) _ HY4.out Try.underlying45 rfl (size_kv _ _) ?_))
          refine (HG.out _).mono ?_
          rintro e wg ⟨rfl, hbg⟩
          have HXSg := Lib.hid (Nat.le_trans HXS4.out hbg.size)
          have HXg := Lib.hid ((hbg.block _ (lt_of_block HX4.out)).trans HX4.out)
          have HYg := Lib.hid ((hbg.block _ (lt_of_block HY4.out)).trans HY4.out)
          have HBg := Lib.hid (HB4.out.trans (hbg.mono HXS4.out))
          clear hbg
          go_upto_region 11 with (first
            | (with_reducible refine wpList_store_row (o := ⟨none, .store _ (.tmp 9) _, _, _, _, _⟩) rfl 38 _ _ rfl wg.heap.size BR rfl rfl 38 ZS (heap_alloc_new wg _) HBR.out.sz (HZ.out.same HBR.out) HBR.out.one ?_))
          generalize hWs : World.setRow _ wg.heap.size _ = wh
          obtain ⟨hnz, hbz⟩ := fresh15 wg ZS BR 38 wh hWs.symm
          have HRwh := Lib.hid hnz
          have HXSh := Lib.hid (Nat.le_trans HXSg.out hbz.size)
          have HXh := Lib.hid ((hbz.block _ (lt_of_block HXg.out)).trans HXg.out)
          have HYh := Lib.hid ((hbz.block _ (lt_of_block HYg.out)).trans HYg.out)
          have HBh := Lib.hid (HBg.out.trans (hbz.mono HXSg.out))
          clear hbz
          clear hWs hnz
          generalize wg.heap.size = V1 at *
          go_wp2_with (first
            | (with_reducible refine wpList_load_row (o := ⟨some 71, _, _, _, _, _⟩) rfl 38 _ rfl V1 rfl 38 BR (0, 0) _ HRwh.out Try.underlying38 rfl HBR.out.sz ?_))
          refine (HP2.out _).mono ?_
          rintro e wi ⟨rfl, hbi⟩
          have HRi := Lib.hid ((hbi.block _ (lt_of_block HRwh.out)).trans HRwh.out)
          have HXSi := Lib.hid (Nat.le_trans HXSh.out hbi.size)
          have HXi := Lib.hid ((hbi.block _ (lt_of_block HXh.out)).trans HXh.out)
          have HYi := Lib.hid ((hbi.block _ (lt_of_block HYh.out)).trans HYh.out)
          have HBi := Lib.hid (HBh.out.trans (hbi.mono HXSh.out))
          clear hbi
          clear HRwh HP2 HG
          go_upto_region 14 with fail
          generalize hWs : World.alloc wi (.cells #[.string ka1, .string va1] 45) = wj
          have hbz := ba15 wi (.cells #[.string ka1, .string va1] 45)
          have hnz := new15 wi (.cells #[.string ka1, .string va1] 45)
          rw [hWs] at hbz hnz
          have HRwj := Lib.hid hnz
          have HRj := Lib.hid ((hbz.block _ (lt_of_block HRi.out)).trans HRi.out)
          have HXSj := Lib.hid (Nat.le_trans HXSi.out hbz.size)
          have HXj := Lib.hid ((hbz.block _ (lt_of_block HXi.out)).trans HXi.out)
          have HYj := Lib.hid ((hbz.block _ (lt_of_block HYi.out)).trans HYi.out)
          have HBj := Lib.hid (HBi.out.trans (hbz.mono HXSi.out))
          clear hbz
          clear hWs hnz
          generalize wi.heap.size = V2 at *
          have s1 : (ka1.toList == ka1.toList) = true := by simp
          have s2 : (va1.toList == va1.toList) = true := by simp
          go_wp2_with (first
            | (with_reducible refine wpList_load_guarded (o := ⟨some 78, _, _, _, _, _⟩) (by kernel_rfl) 45 _ rfl V2 rfl 45 #[.string ka1, .string va1] (0, 0) _ HRwj.out Try.underlying45 rfl (size_kv _ _) ?_)
            | (with_reducible refine wpList_load_guarded (o := ⟨some 79, _, _, _, _, _⟩) (by kernel_rfl) 45 _ rfl Y rfl 45 #[.string ka1, .string va1] (0, 0) _ HYj.out Try.underlying45 rfl (size_kv _ _) ?_)
            | (with_reducible refine wpList_load_guarded (o := ⟨some 83, _, _, _, _, _⟩) (by kernel_rfl) 38 _ rfl V1 rfl 38 BR (0, 0) _ HRj.out Try.underlying38 rfl HBR.out.sz ?_))
          refine (HC.out _).mono ?_
          rintro e wk ⟨rfl, hbk⟩
          have HBk := Lib.hid (HBj.out.trans (hbk.mono HXSj.out))
          clear hbk HC
          go_wp2_with fail
          go_ret
          exact ⟨rfl, by rw [hXX]; exact HBk.out⟩
        · have hge := get_err hE
          rw [hge, HZ.out.eq] at HG
          have hbn := build_set0
          have heq := eq_set zeroSet zeroSet setok_zero setok_zero
          rw [HZ.out.eq, decide_eq_true rfl] at heq
          rw [HZ.out.eq] at hbn
          clear hge hE
          go_wp2_with (first
            | (with_reducible refine wpList_load_row (o := ⟨some 61, _, _, _, _, _⟩) rfl 45 _ rfl Y rfl 45 #[.string ka1, .string va1] (0, 0) _ HY4.out Try.underlying45 rfl (size_kv _ _) ?_))
          refine (HG.out _).mono ?_
          rintro e wg ⟨rfl, hbg⟩
          have HXSg := Lib.hid (Nat.le_trans HXS4.out hbg.size)
          have HXg := Lib.hid ((hbg.block _ (lt_of_block HX4.out)).trans HX4.out)
          have HYg := Lib.hid ((hbg.block _ (lt_of_block HY4.out)).trans HY4.out)
          have HBg := Lib.hid (HB4.out.trans (hbg.mono HXS4.out))
          clear hbg
          go_upto_region 11 with (first
            | (with_reducible refine wpList_store_row (o := ⟨none, .store _ (.tmp 9) _, _, _, _, _⟩) rfl 38 _ _ rfl wg.heap.size ZS rfl rfl 38 ZS (heap_alloc_new wg _) HZ.out.sz (HZ.out.same HZ.out) HZ.out.one ?_))
          generalize hWs : World.setRow _ wg.heap.size _ = wh
          obtain ⟨hnz, hbz⟩ := fresh15 wg ZS ZS 38 wh hWs.symm
          have HRwh := Lib.hid hnz
          have HXSh := Lib.hid (Nat.le_trans HXSg.out hbz.size)
          have HXh := Lib.hid ((hbz.block _ (lt_of_block HXg.out)).trans HXg.out)
          have HYh := Lib.hid ((hbz.block _ (lt_of_block HYg.out)).trans HYg.out)
          have HBh := Lib.hid (HBg.out.trans (hbz.mono HXSg.out))
          clear hbz
          clear hWs hnz
          generalize wg.heap.size = V1 at *
          go_wp2_with (first
            | (with_reducible refine wpList_load_row (o := ⟨some 67, _, _, _, _, _⟩) rfl 38 _ rfl V1 rfl 38 ZS (0, 0) _ HRwh.out Try.underlying38 rfl HZ.out.sz ?_)
            | (with_reducible refine wpList_build_run (o := ⟨some 68, _, _, _, _, _⟩) rfl 38 _ rfl #[] (by simp) (.agg ZS) (hbn _) ?_))
          go_ret
          exact ⟨rfl, by rw [hXX]; exact HBh.out⟩
    · have hI : (1000 : Int) < (ka1.size : Int) + (va1.size : Int) := by omega
      clear h1000
      go_wp2_with fail
      go_ret
      exact ⟨rfl, by rw [hXX]; exact HB2.out⟩
set_option maxRecDepth 100000 in
theorem lifted (os : Os) (started : os.Started) (H : Type) (enc : TypeId × Value → H) :
    ReturnsInHanded {} Try.checked os 5 .any (Rows.dirBackSpec.pre6 enc Try.prog Try.f5 Rows.dirBackRow.domain false) (Rows.dirBackSpec.post enc Try.prog Try.f5 false true false false) := by
  refine returnsInHanded_of_change_sized (C := Try.checked) own started (by kernel_rfl) Try.func5
    (ChangeSpec.witness6 (enc := enc) (C := Try.checked) false ⟨#[], #[.agg (#[.string ⟨#[]⟩, .string ⟨#[]⟩, .bool false, .int .u32 0, .int .u64 0] ++ Array.replicate 32 (.int .u8 0)), .agg #[.string ⟨#[]⟩, .string ⟨#[]⟩]], []⟩ 8 (by kernel_rfl) (by kernel_rfl) (by kernel_rfl) (by kernel_rfl)) ?_
  intro W base args ds gs before hval0 hW hcnd hsz0 _
  have hsz : (DataW.weightsEach Try.prog (Try.f5.params.toList ++ Rows.dirBackSpec.plain.varTypes Try.prog) (ds ++ gs)).all (· ≤ reachBytes) = true := hsz0
  clear hsz0
  have hval : ∀ (j : Nat) t v, Try.f5.params[j]? = some t → args[j]? = some v → Value.okWide Try.prog W .any base t v := hval0
  have hW' := hW
  obtain ⟨p, q, hA0, hV, rfl, hfz, hnd⟩ := hW
  have hA : DataW.TrodAll enc Try.prog W 0 (fun _ => true) true Try.f5.params.toList args.toList ds p := hA0
  rw [Try.params5] at hA hval hsz
  obtain ⟨v0, vs0, d0, ds0, p0, q0, hargs, rfl, rfl, h0, r0⟩ := trodAll_cons hA
  obtain ⟨v1, vs1, d1, ds1, p1, q1, rfl, rfl, rfl, h1, r1⟩ := trodAll_cons r0
  obtain ⟨rfl, rfl, rfl⟩ := trodAll_nil r1
  obtain rfl : args = #[v0, v1] := by cases args; simp_all
  obtain ⟨rfl, rfl⟩ := trodVars_none hV
  have k0 := h0
  have lt0 : ∀ x ∈ p0, x.block < W.heap.size := by obtain ⟨m, hm⟩ := k0; exact DataW.trod_lt m _ _ _ hm
  have k1 := h1
  have lt1 : ∀ x ∈ p1, x.block < W.heap.size := by obtain ⟨m, hm⟩ := k1; exact DataW.trod_lt m _ _ _ hm
  obtain ⟨s0, rfl, ok0⟩ := par_set (j := 0) (hval 0 38 v0 rfl rfl) h0 hsz rfl rfl
  obtain ⟨ka1, va1, rfl, kz1, vz1⟩ := par_kv15 (j := 1) (hval 1 45 v1 rfl rfl) h1 hsz rfl rfl
  clear hA0 hval0
  simp only [List.append_nil] at hW'
  refine (walk W s0 ok0 ka1 va1 kz1 vz1).mono fun e W' ⟨he, bel⟩ => ?_
  subst he
  exact ⟨_, rfl, _, _, _, [], _, [], hW', trodAll_mk1 (shut_bool Try.underlying4 _), (trodAll_cons_mk (Below.trod laidOut (by kernel_rfl) (of_decide_eq_true (by kernel_rfl)) k0 bel lt0) (trodAll_cons_mk (Below.trod laidOut (by kernel_rfl) (of_decide_eq_true (by kernel_rfl)) k1 bel lt1) trodAll_mk0)), rfl, bel.frame _, fun h => by cases h⟩

theorem over : Rows.dirBackRow.holds Try.pinned (OpenSpec.ofChange Rows.dirBackSpec) :=
  OpenClaim.holds_of_wide 5 Try.f5 rfl rfl rfl rfl rfl rfl rfl ⟨rfl, rfl, rfl, rfl, rfl⟩ rfl rfl rfl rfl rfl (by kernel_rfl) Try.func5 (by kernel_rfl)
    (of_decide_eq_true (by kernel_rfl)) (by unfold Func.isWrapper; first | (rw [if_pos (by decide +kernel)]; kernel_rfl) | (rw [if_neg (by decide +kernel)]; exact ⟨rfl, rfl⟩))
    (fun os started H enc _ => lifted os started H enc)

/-- The statement. -/
theorem proved : Rows.DirBackSaid := over
#print axioms proved
end Go.Proofs.Ytkafabcklohlmaa.dirBack
