/-
  'DirBytes' returns true at every input, and each argument reads behind the call as it read before. Conditions: none.
-/
import Derived.Test.YtkafabcklohlmaaRows
import Derived.Test.YtkafabcklohlmaaAes0
import Derived.Test.YtkafabcklohlmaaIo
import Derived.Test.YtkafabcklohlmaaIw
namespace Go.Proofs.Ytkafabcklohlmaa.dirBytes
open Go.ChangeShapes Go.WideShapes Go.ChangeAt Go.RowKit
set_option linter.unusedVariables false


set_option maxRecDepth 100000 in
set_option maxHeartbeats 3200000 in
theorem walk (w : World) (s0 : SetV) (ok0 : SetOk s0) (ka1 va1 : ByteArray) (kz1 : ka1.size ≤ 140737488351232) (vz1 : va1.size ≤ 140737488351232) :
    Calls Try.prog 4 #[.agg (setRow s0).toArray, .agg #[.string ka1, .string va1]] w fun e w' => e = .returned (.bool true) ∧ Below w.heap.size w w' := by
  have HAL := Lib.hid (fun W => alive15 W)
  obtain ⟨AR, har⟩ := setR s0
  rw [har.eq]
  have HAR := Lib.hid har
  have HO := Lib.hid ok0
  obtain ⟨hx, hy, hb⟩ := two_rows w (.cells AR 38) (.cells #[.string ka1, .string va1] 45)
  have HX := Lib.hid hx
  have HY := Lib.hid hy
  have HB := Lib.hid hb
  have HKZ := Lib.hid (And.intro kz1 vz1)
  have kI : (ka1.size : Int) ≤ 140737488351232 := by omega
  have vI : (va1.size : Int) ≤ 140737488351232 := by omega
  have k0 : (0 : Int) ≤ (ka1.size : Int) := by omega
  have v0 : (0 : Int) ≤ (va1.size : Int) := by omega
  clear har hx hy hb ok0 kz1 vz1
  obtain ⟨ZS, hzs⟩ := setR zeroSet
  have hz := zero_set
  rw [hzs.eq] at hz
  have HZ := Lib.hid hzs
  clear hzs
  go_enter Try.func4, Try.ntmps4
  go_upto_region 1 with fail
  generalize World.alloc (World.alloc w (.cells AR 38)) (.cells #[.string ka1, .string va1] 45) = wb at *
  generalize hYY : w.heap.size + 1 = Y at *
  generalize hXX : w.heap.size = X at *
  have HXS := Lib.hid (show X ≤ wb.heap.size from hXX ▸ HB.out.size)
  clear hYY
  go_wp2_with fail
  refine (HAL.out _).mono ?_
  rintro e w1 ⟨rfl, hb1⟩
  have HXS1 := Lib.hid (Nat.le_trans HXS.out hb1.size)
  have HX1 := Lib.hid ((hb1.block _ (lt_of_block HX.out)).trans HX.out)
  have HY1 := Lib.hid ((hb1.block _ (lt_of_block HY.out)).trans HY.out)
  have HB1 := Lib.hid (HB.out.trans (hb1.mono HXS.out))
  clear hb1
  clear HAL HXS HX HY HB
  have hls := ls_one (new15 w1 (.cells AR 38)) HAR.out
  have HGR := Lib.hid (great15 _ [s0] _ hls (by simp) (fun s hs => by rw [List.mem_singleton.1 hs]; exact HO.out))
  have HLI := Lib.hid (show (Instr.buildSlice 22 1 #[(0, .agg AR)]).run Try.prog w1 = .ok (.slice (some ⟨w1.heap.size, 0, none⟩) 1 1) (World.alloc w1 (.cells AR 38)) from HAR.out.eq ▸ lit_set _ w1)
  have HBL := Lib.hid (ba15 w1 (.cells AR 38))
  clear hls
  go_wp2_with (first
    | (with_reducible refine wpList_load_row (o := ⟨some 15, _, _, _, _, _⟩) rfl 38 _ rfl X rfl 38 AR (0, 0) _ HX1.out Try.underlying38 rfl HAR.out.sz ?_)
    | (refine wpList_lit_run (o := ⟨some 16, _, _, _, _, _⟩) rfl _ _ _ rfl #[(0, .agg AR)] (by simp [Act.eval, Act.put]) _ _ HLI.out ?_))
  refine HGR.out.mono ?_
  rintro e w2 ⟨hg, hb2'⟩
  have hb2 := bt15 HBL.out hb2'
  have HXS2 := Lib.hid (Nat.le_trans HXS1.out hb2.size)
  have HX2 := Lib.hid ((hb2.block _ (lt_of_block HX1.out)).trans HX1.out)
  have HY2 := Lib.hid ((hb2.block _ (lt_of_block HY1.out)).trans HY1.out)
  have HB2 := Lib.hid (HB1.out.trans (hb2.mono HXS1.out))
  clear hb2
  clear hb2' HGR HBL HLI HX1 HY1 HB1 HXS1
  rcases hg with rfl | ⟨rfl, _, hg2⟩
  · have hbt : (true : Bool) = true := rfl
    clear hbt
    go_wp2_with fail
    go_ret
    exact ⟨rfl, by rw [hXX]; exact HB2.out⟩
  · have HNM := Lib.hid (hg2 s0 (List.mem_singleton.2 rfl))
    have c0 := cell_of_row w2 Y 0 _ _ _ HY2.out
    have c1 := cell_of_row w2 Y 1 _ _ _ HY2.out
    clear hg2
    by_cases h1000 : ka1.size + va1.size ≤ 1000
    · have hI : ¬ ((1000 : Int) < (ka1.size : Int) + (va1.size : Int)) := by omega
      clear h1000
      have HP := Lib.hid (fun W => pput15 s0 HO.out W)
      have HQ := Lib.hid (fun W => rput15 s0 HO.out W)
      have HG := Lib.hid (fun W => pget15 ka1 va1 HKZ.out.1 HKZ.out.2 W)
      have HH := Lib.hid (fun W => rget15 ka1 va1 HKZ.out.1 HKZ.out.2 W)
      unfold KvPost at HP HQ
      unfold SetPost at HG HH
      rw [HAR.out.eq] at HP HQ
      obtain ⟨BR, hbr⟩ := setR (getK ka1 va1).1
      have HBR := Lib.hid hbr
      rw [hbr.eq] at HG HH
      have heq := eq_set (getK ka1 va1).1 (getK ka1 va1).1 (getK_ok HKZ.out.1) (getK_ok HKZ.out.1)
      rw [hbr.eq, decide_eq_true rfl] at heq
      have HEQ := Lib.hid heq
      have HCP := Lib.hid (fun W => pcheck15 s0 HO.out W)
      have HCR := Lib.hid (fun W => rcheck15 s0 HO.out W)
      rw [HAR.out.eq] at HCP HCR
      clear hbr heq
      generalize (putD s0).1.1 = PK at *
      generalize (putD s0).1.2 = PV at *
      generalize (putD s0).2 = E1 at *
      generalize (getK ka1 va1).2 = E2 at *
      generalize checkS s0 = E3 at *
      go_wp2_with (first
        | (with_reducible refine wpList_load_row (o := ⟨some 29, _, _, _, _, _⟩) rfl 38 _ rfl X rfl 38 AR (0, 0) _ HX2.out Try.underlying38 rfl HAR.out.sz ?_))
      refine (HP.out _).mono ?_
      rintro e w3 ⟨rfl, hb3⟩
      have HXS3 := Lib.hid (Nat.le_trans HXS2.out hb3.size)
      have HX3 := Lib.hid ((hb3.block _ (lt_of_block HX2.out)).trans HX2.out)
      have HY3 := Lib.hid ((hb3.block _ (lt_of_block HY2.out)).trans HY2.out)
      have HB3 := Lib.hid (HB2.out.trans (hb3.mono HXS2.out))
      clear hb3
      clear HP HX2 HY2 HB2 HXS2 c0 c1
      go_upto_region 6 with fail
      generalize hWs : World.alloc w3 (.cells #[.string PK, .string PV] 45) = w4
      have hbz := ba15 w3 (.cells #[.string PK, .string PV] 45)
      have hnz := new15 w3 (.cells #[.string PK, .string PV] 45)
      rw [hWs] at hbz hnz
      have HRw4 := Lib.hid hnz
      have HXS4 := Lib.hid (Nat.le_trans HXS3.out hbz.size)
      have HX4 := Lib.hid ((hbz.block _ (lt_of_block HX3.out)).trans HX3.out)
      have HY4 := Lib.hid ((hbz.block _ (lt_of_block HY3.out)).trans HY3.out)
      have HB4 := Lib.hid (HB3.out.trans (hbz.mono HXS3.out))
      clear hbz
      clear hWs hnz
      generalize w3.heap.size = U1 at *
      clear HX3 HY3 HB3 HXS3
      go_wp2_with (first
        | (with_reducible refine wpList_load_row (o := ⟨some 34, _, _, _, _, _⟩) rfl 38 _ rfl X rfl 38 AR (0, 0) _ HX4.out Try.underlying38 rfl HAR.out.sz ?_))
      refine (HQ.out _).mono ?_
      rintro e w5 ⟨rfl, hb5⟩
      have HR5 := Lib.hid ((hb5.block _ (lt_of_block HRw4.out)).trans HRw4.out)
      have HXS5 := Lib.hid (Nat.le_trans HXS4.out hb5.size)
      have HX5 := Lib.hid ((hb5.block _ (lt_of_block HX4.out)).trans HX4.out)
      have HY5 := Lib.hid ((hb5.block _ (lt_of_block HY4.out)).trans HY4.out)
      have HB5 := Lib.hid (HB4.out.trans (hb5.mono HXS4.out))
      clear hb5
      clear HQ HX4 HY4 HB4 HXS4 HRw4
      go_upto_region 7 with fail
      generalize hWs : World.alloc w5 (.cells #[.string PK, .string PV] 45) = w6
      have hbz := ba15 w5 (.cells #[.string PK, .string PV] 45)
      have hnz := new15 w5 (.cells #[.string PK, .string PV] 45)
      rw [hWs] at hbz hnz
      have HRw6 := Lib.hid hnz
      have HR6 := Lib.hid ((hbz.block _ (lt_of_block HR5.out)).trans HR5.out)
      have HXS6 := Lib.hid (Nat.le_trans HXS5.out hbz.size)
      have HX6 := Lib.hid ((hbz.block _ (lt_of_block HX5.out)).trans HX5.out)
      have HY6 := Lib.hid ((hbz.block _ (lt_of_block HY5.out)).trans HY5.out)
      have HB6 := Lib.hid (HB5.out.trans (hbz.mono HXS5.out))
      clear hbz
      clear hWs hnz
      generalize w5.heap.size = U2 at *
      clear HX5 HY5 HB5 HXS5 HR5
      go_wp2_with (first
        | (with_reducible refine wpList_load_row (o := ⟨some 39, _, _, _, _, _⟩) rfl 45 _ rfl Y rfl 45 #[.string ka1, .string va1] (0, 0) _ HY6.out Try.underlying45 rfl (size_kv _ _) ?_))
      refine (HG.out _).mono ?_
      rintro e w7 ⟨rfl, hb7⟩
      have HR7 := Lib.hid ((hb7.block _ (lt_of_block HR6.out)).trans HR6.out)
      have HS7 := Lib.hid ((hb7.block _ (lt_of_block HRw6.out)).trans HRw6.out)
      have HXS7 := Lib.hid (Nat.le_trans HXS6.out hb7.size)
      have HX7 := Lib.hid ((hb7.block _ (lt_of_block HX6.out)).trans HX6.out)
      have HY7 := Lib.hid ((hb7.block _ (lt_of_block HY6.out)).trans HY6.out)
      have HB7 := Lib.hid (HB6.out.trans (hb7.mono HXS6.out))
      clear hb7
      clear HG HX6 HY6 HB6 HXS6 HR6 HRw6
      go_upto_region 8 with (first
        | (with_reducible refine wpList_store_row (o := ⟨none, .store _ (.tmp 9) _, _, _, _, _⟩) rfl 38 _ _ rfl w7.heap.size BR rfl rfl 38 ZS (heap_alloc_new w7 _) HBR.out.sz (HZ.out.same HBR.out) HBR.out.one ?_))
      generalize hWs : World.setRow _ w7.heap.size _ = w8
      obtain ⟨hnz, hbz⟩ := fresh15 w7 ZS BR 38 w8 hWs.symm
      have HRw8 := Lib.hid hnz
      have HR8 := Lib.hid ((hbz.block _ (lt_of_block HR7.out)).trans HR7.out)
      have HS8 := Lib.hid ((hbz.block _ (lt_of_block HS7.out)).trans HS7.out)
      have HXS8 := Lib.hid (Nat.le_trans HXS7.out hbz.size)
      have HX8 := Lib.hid ((hbz.block _ (lt_of_block HX7.out)).trans HX7.out)
      have HY8 := Lib.hid ((hbz.block _ (lt_of_block HY7.out)).trans HY7.out)
      have HB8 := Lib.hid (HB7.out.trans (hbz.mono HXS7.out))
      clear hbz
      clear hWs hnz
      generalize w7.heap.size = U3 at *
      clear HX7 HY7 HB7 HXS7 HR7 HS7
      go_wp2_with (first
        | (with_reducible refine wpList_load_row (o := ⟨some 44, _, _, _, _, _⟩) rfl 45 _ rfl Y rfl 45 #[.string ka1, .string va1] (0, 0) _ HY8.out Try.underlying45 rfl (size_kv _ _) ?_))
      refine (HH.out _).mono ?_
      rintro e w9 ⟨rfl, hb9⟩
      have HR9 := Lib.hid ((hb9.block _ (lt_of_block HR8.out)).trans HR8.out)
      have HS9 := Lib.hid ((hb9.block _ (lt_of_block HS8.out)).trans HS8.out)
      have HT9 := Lib.hid ((hb9.block _ (lt_of_block HRw8.out)).trans HRw8.out)
      have HXS9 := Lib.hid (Nat.le_trans HXS8.out hb9.size)
      have HX9 := Lib.hid ((hb9.block _ (lt_of_block HX8.out)).trans HX8.out)
      have HY9 := Lib.hid ((hb9.block _ (lt_of_block HY8.out)).trans HY8.out)
      have HB9 := Lib.hid (HB8.out.trans (hb9.mono HXS8.out))
      clear hb9
      clear HH HX8 HY8 HB8 HXS8 HR8 HS8 HRw8
      go_upto_region 9 with (first
        | (with_reducible refine wpList_store_row (o := ⟨none, .store _ (.tmp 11) _, _, _, _, _⟩) rfl 38 _ _ rfl w9.heap.size BR rfl rfl 38 ZS (heap_alloc_new w9 _) HBR.out.sz (HZ.out.same HBR.out) HBR.out.one ?_))
      generalize hWs : World.setRow _ w9.heap.size _ = wa
      obtain ⟨hnz, hbz⟩ := fresh15 w9 ZS BR 38 wa hWs.symm
      have HRwa := Lib.hid hnz
      have HRa := Lib.hid ((hbz.block _ (lt_of_block HR9.out)).trans HR9.out)
      have HSa := Lib.hid ((hbz.block _ (lt_of_block HS9.out)).trans HS9.out)
      have HTa := Lib.hid ((hbz.block _ (lt_of_block HT9.out)).trans HT9.out)
      have HXSa := Lib.hid (Nat.le_trans HXS9.out hbz.size)
      have HXa := Lib.hid ((hbz.block _ (lt_of_block HX9.out)).trans HX9.out)
      have HYa := Lib.hid ((hbz.block _ (lt_of_block HY9.out)).trans HY9.out)
      have HBa := Lib.hid (HB9.out.trans (hbz.mono HXS9.out))
      clear hbz
      clear hWs hnz
      generalize w9.heap.size = U4 at *
      clear HX9 HY9 HB9 HXS9 HR9 HS9 HT9
      have HK1 := Lib.hid (show wa.rangeAt U1 0 [.string PK, .string PV] from range_of_row HRa.out)
      have HK2 := Lib.hid (show wa.rangeAt U2 0 [.string PK, .string PV] from range_of_row HSa.out)
      have HQ3 := Lib.hid (show wa.rangeAt U3 0 (setRow (getK ka1 va1).1) by have h := HTa.out; rw [← HBR.out.eq] at h; exact range_of_row h)
      have HQ4 := Lib.hid (show wa.rangeAt U4 0 (setRow (getK ka1 va1).1) by have h := HRwa.out; rw [← HBR.out.eq] at h; exact range_of_row h)
      have HQX := Lib.hid (show wa.rangeAt X 0 (setRow s0) by have h := HXa.out; rw [← HAR.out.eq] at h; exact range_of_row h)
      have heq := HEQ.out
      have s1 : (PK.toList == PK.toList) = true := by simp
      have s2 : (PV.toList == PV.toList) = true := by simp
      have s3 : (E1 == E1) = true := by simp
      have s4 : (E2 == E2) = true := by simp
      have s5 : (E3 == E3) = true := by simp
      try simp only [Act.put]
      refine wp_region_below (by kernel_rfl) (by kernel_rfl) ?_
      repeat (first
        | (with_reducible refine quiet_ld_kv (o := ⟨some 48, _, _, _, _, _⟩) (by kernel_rfl) _ rfl U1 rfl PK PV HK1.out ?_
           simp only [Act.put, List.setIfInBounds_toArray, List.set_cons_zero, List.set_cons_succ])
        | (with_reducible refine quiet_ld_kv (o := ⟨some 49, _, _, _, _, _⟩) (by kernel_rfl) _ rfl U2 rfl PK PV HK2.out ?_
           simp only [Act.put, List.setIfInBounds_toArray, List.set_cons_zero, List.set_cons_succ])
        | (with_reducible refine quiet_ld_set (o := ⟨some 57, _, _, _, _, _⟩) (by kernel_rfl) _ rfl U3 0 rfl (getK ka1 va1).1 _ HBR.out.eq HQ3.out ?_
           simp only [Act.put, List.setIfInBounds_toArray, List.set_cons_zero, List.set_cons_succ])
        | (with_reducible refine quiet_ld_set (o := ⟨some 58, _, _, _, _, _⟩) (by kernel_rfl) _ rfl U4 0 rfl (getK ka1 va1).1 _ HBR.out.eq HQ4.out ?_
           simp only [Act.put, List.setIfInBounds_toArray, List.set_cons_zero, List.set_cons_succ])
        | (with_reducible refine quiet_ld_set (o := ⟨some 67, _, _, _, _, _⟩) (by kernel_rfl) _ rfl X 0 rfl s0 _ HAR.out.eq HQX.out ?_
           simp only [Act.put, List.setIfInBounds_toArray, List.set_cons_zero, List.set_cons_succ])
        | (with_reducible refine quiet_ld_set (o := ⟨some 69, _, _, _, _, _⟩) (by kernel_rfl) _ rfl X 0 rfl s0 _ HAR.out.eq HQX.out ?_
           simp only [Act.put, List.setIfInBounds_toArray, List.set_cons_zero, List.set_cons_succ])
        | (go_big_quiet_step (first | (go_at_call 23; exact calls_below (HCP.out _)) | (go_at_call 24; exact calls_below (HCR.out _)))))
      refine wpQuiet_nil ?_
      intro _ hw'
      obtain ⟨pp, hw''⟩ := hw'
      subst hw''
      have HBz := Lib.hid (HBa.out.trans (pp.bel.mono HXSa.out))
      generalize pp.now = wz at *
      clear pp
      go_wp2_with fail
      go_ret
      exact ⟨rfl, by rw [hXX]; exact HBz.out⟩
    · have hI : (1000 : Int) < (ka1.size : Int) + (va1.size : Int) := by omega
      clear h1000
      go_wp2_with fail
      go_ret
      exact ⟨rfl, by rw [hXX]; exact HB2.out⟩
set_option maxRecDepth 100000 in
theorem lifted (os : Os) (started : os.Started) (H : Type) (enc : TypeId × Value → H) :
    ReturnsInHanded {} Try.checked os 4 .any (Rows.dirBytesSpec.pre6 enc Try.prog Try.f4 Rows.dirBytesRow.domain false) (Rows.dirBytesSpec.post enc Try.prog Try.f4 false true false false) := by
  refine returnsInHanded_of_change_sized (C := Try.checked) own started (by kernel_rfl) Try.func4
    (ChangeSpec.witness6 (enc := enc) (C := Try.checked) false ⟨#[], #[.agg (#[.string ⟨#[]⟩, .string ⟨#[]⟩, .bool false, .int .u32 0, .int .u64 0] ++ Array.replicate 32 (.int .u8 0)), .agg #[.string ⟨#[]⟩, .string ⟨#[]⟩]], []⟩ 8 (by kernel_rfl) (by kernel_rfl) (by kernel_rfl) (by kernel_rfl)) ?_
  intro W base args ds gs before hval0 hW hcnd hsz0 _
  have hsz : (DataW.weightsEach Try.prog (Try.f4.params.toList ++ Rows.dirBytesSpec.plain.varTypes Try.prog) (ds ++ gs)).all (· ≤ reachBytes) = true := hsz0
  clear hsz0
  have hval : ∀ (j : Nat) t v, Try.f4.params[j]? = some t → args[j]? = some v → Value.okWide Try.prog W .any base t v := hval0
  have hW' := hW
  obtain ⟨p, q, hA0, hV, rfl, hfz, hnd⟩ := hW
  have hA : DataW.TrodAll enc Try.prog W 0 (fun _ => true) true Try.f4.params.toList args.toList ds p := hA0
  rw [Try.params4] at hA hval hsz
  obtain ⟨v0, vs0, d0, ds0, p0, q0, hargs, rfl, rfl, h0, r0⟩ := trodAll_cons hA
  obtain ⟨v1, vs1, d1, ds1, p1, q1, rfl, rfl, rfl, h1, r1⟩ := trodAll_cons r0
  obtain ⟨rfl, rfl, rfl⟩ := trodAll_nil r1
  obtain rfl : args = #[v0, v1] := by cases args; simp_all
  obtain ⟨rfl, rfl⟩ := trodVars_none hV
  have k0 := h0
  have lt0 : ∀ x ∈ p0, x.block < W.heap.size := by obtain ⟨m, hm⟩ := k0; exact DataW.trod_lt m _ _ _ hm
  have k1 := h1
  have lt1 : ∀ x ∈ p1, x.block < W.heap.size := by obtain ⟨m, hm⟩ := k1; exact DataW.trod_lt m _ _ _ hm
  obtain ⟨s0, rfl, ok0⟩ := par_set (j := 0) (hval 0 38 v0 rfl rfl) h0 hsz rfl rfl
  obtain ⟨ka1, va1, rfl, kz1, vz1⟩ := par_kv15 (j := 1) (hval 1 45 v1 rfl rfl) h1 hsz rfl rfl
  clear hA0 hval0
  simp only [List.append_nil] at hW'
  refine (walk W s0 ok0 ka1 va1 kz1 vz1).mono fun e W' ⟨he, bel⟩ => ?_
  subst he
  exact ⟨_, rfl, _, _, _, [], _, [], hW', trodAll_mk1 (shut_bool Try.underlying4 _), (trodAll_cons_mk (Below.trod laidOut (by kernel_rfl) (of_decide_eq_true (by kernel_rfl)) k0 bel lt0) (trodAll_cons_mk (Below.trod laidOut (by kernel_rfl) (of_decide_eq_true (by kernel_rfl)) k1 bel lt1) trodAll_mk0)), rfl, bel.frame _, fun h => by cases h⟩

theorem over : Rows.dirBytesRow.holds Try.pinned (OpenSpec.ofChange Rows.dirBytesSpec) :=
  OpenClaim.holds_of_wide 4 Try.f4 rfl rfl rfl rfl rfl rfl rfl ⟨rfl, rfl, rfl, rfl, rfl⟩ rfl rfl rfl rfl rfl (by kernel_rfl) Try.func4 (by kernel_rfl)
    (of_decide_eq_true (by kernel_rfl)) (by unfold Func.isWrapper; first | (rw [if_pos (by decide +kernel)]; kernel_rfl) | (rw [if_neg (by decide +kernel)]; exact ⟨rfl, rfl⟩))
    (fun os started H enc _ => lifted os started H enc)

/-- The statement. -/
theorem proved : Rows.DirBytesSaid := over
#print axioms proved
end Go.Proofs.Ytkafabcklohlmaa.dirBytes
