/-
  Datasets: the program's Create, Snap, Clone. (Written by tools/XIg.make.py.)
-/
import Derived.Test.YtkafabcklohlmaaIf
namespace Go.Proofs.Ytkafabcklohlmaa
set_option maxRecDepth 4000
set_option linter.unusedVariables false
open Go.ChangeShapes Go.WideShapes Go.ChangeAt Go.RowKit

set_option maxRecDepth 100000 in
set_option maxHeartbeats 3200000 in
theorem pcreate15 (v : Value) (l : List SetV) (n : ByteArray) (w : World) (h : LS w v l) (hs : l.length < 1000) (ho : ∀ s ∈ l, SetOk s) (hz : n.size ≤ 140737488351232) :
    Calls Try.prog 29 #[v, .string n] w fun e w' => DoPost w (createD l n) e w' := by
  have HV := Lib.hid (pvalid15 v l w h (by omega) ho)
  cases hv : validB l with
  | false =>
    have HE := Lib.hid (show createD l n = (4, []) by unfold createD; rw [hv]; rfl)
    have hve : validE l = 4 := by unfold validE; rw [hv]; rfl
    rw [hve] at HV
    clear hv hve h hs ho hz
    go_enter Try.func29, Try.ntmps29
    go_wp2_with fail
    refine HV.out.mono ?_
    rintro e w2 ⟨rfl, hb2⟩
    have HB2 := Lib.hid hb2
    clear hb2
    go_wp2_with fail
    go_ret2
    exact ⟨_, by rw [HE.out]; rfl, by rw [HE.out]; exact OWS.nil _ _, HB2.out⟩
  | true =>
    have HE := Lib.hid (show createD l n = addD l ⟨n, noS, false, zeroPtr⟩ by unfold createD; rw [hv]; rfl)
    have hve : validE l = 0 := by unfold validE; rw [hv]; rfl
    rw [hve] at HV
    have hr := (valid_iff.1 hv).ris
    obtain ⟨BR, hbr⟩ := setR ⟨n, noS, false, zeroPtr⟩
    have HAD := Lib.hid (fun W (b : Below w.heap.size w W) => hbr.eq ▸ padd15 v l ⟨n, noS, false, zeroPtr⟩ W (h.below b) hs hr hz)
    have hbn := build_set1 n
    rw [hbr.eq] at hbn
    have hb1 := Lib.hid hbn
    clear hv hve h hs ho hz hr hbr hbn
    go_enter Try.func29, Try.ntmps29
    go_wp2_with fail
    refine HV.out.mono ?_
    rintro e w2 ⟨rfl, hb2⟩
    have HB2 := Lib.hid hb2
    clear hb2
    go_wp2_with (first
      | (with_reducible refine wpList_build_run (o := ⟨some 14, _, _, _, _, _⟩) rfl 38 _ rfl #[(0, .string n)] (by simp [Act.eval]) (.agg BR) (hb1.out _) ?_))
    refine (HAD.out _ HB2.out).mono ?_
    rintro e w3 ⟨v', rfl, ho3, hb3⟩
    have HO := Lib.hid (ho3.up HB2.out.size)
    have HB3 := Lib.hid (bt15 HB2.out hb3)
    clear ho3 hb3
    go_wp2_with fail
    go_ret2
    exact ⟨_, by rw [HE.out]; rfl, by rw [HE.out]; exact HO.out, HB3.out⟩
set_option maxRecDepth 100000 in
set_option maxHeartbeats 3200000 in
theorem psnap15 (v : Value) (l : List SetV) (o n : ByteArray) (w : World) (h : LS w v l) (hs : l.length < 1000) (ho : ∀ s ∈ l, SetOk s) (hzn : n.size ≤ 140737488351232) :
    Calls Try.prog 27 #[v, .string o, .string n] w fun e w' => DoPost w (snapD l o n) e w' := by
  have HF := Lib.hid (pfind15 v l o w h (by omega) ho)
  unfold FindPost at HF
  obtain ⟨ZS, hzs⟩ := setR zeroSet
  have hz := zero_set
  rw [hzs.eq] at hz
  have HZ := Lib.hid hzs
  clear hzs
  by_cases hf : (findD l o).2 = 0
  · obtain ⟨hv, hm, hn⟩ := find_cases l o hf
    rw [hf] at HF
    obtain ⟨s, hs0⟩ : ∃ s, (findD l o).1 = s := ⟨_, rfl⟩
    rw [hs0] at HF hm hn
    obtain ⟨AR, har⟩ := setR s
    rw [har.eq] at HF
    have HAR := Lib.hid har
    have hp := (ok_parts (hv.ok s hm))
    cases hsn : s.sn with
    | true =>
      have HE := Lib.hid (show snapD l o n = (10, []) by unfold snapD; rw [if_pos hf, hs0, hsn]; rfl)
      clear har h hs ho hf hs0 hm hn hv hp hzn
      go_enter Try.func27, Try.ntmps27
      go_wp2_with fail
      refine HF.out.mono ?_
      rintro e w2 ⟨rfl, hb2⟩
      have HB2 := Lib.hid hb2
      clear hb2
      go_upto_region 2 with (first
        | (with_reducible refine wpList_store_row (o := ⟨none, .store _ (.tmp 8) _, _, _, _, _⟩) rfl 38 _ _ rfl w2.heap.size AR rfl rfl 38 ZS (heap_alloc_new w2 _) HAR.out.sz (HZ.out.same HAR.out) HAR.out.one ?_))
      generalize hWs : World.setRow _ w2.heap.size _ = w3
      have hst := fresh15 w2 ZS AR 38 w3 hWs.symm
      have HR3 := Lib.hid hst.1
      have HB3 := Lib.hid (bt15 HB2.out hst.2)
      obtain ⟨d0, d1, d2, d3⟩ := set_atR hst.1 HAR.out
      have HP3 := Lib.hid d3
      have HXk := Lib.hid HB2.out.size
      clear hWs hst d3 HF
      generalize w2.heap.size = X at *
      rw [hsn] at d2
      go_wp2_with fail
      go_ret2
      exact ⟨_, by rw [HE.out]; rfl, by rw [HE.out]; exact OWS.nil _ _, HB3.out⟩
    | false =>
      have HE := Lib.hid (show snapD l o n = addD l ⟨n, o, true, s.rt⟩ by unfold snapD; rw [if_pos hf, hs0, hsn]; rfl)
      obtain ⟨BR, hbr⟩ := setR ⟨n, o, true, s.rt⟩
      obtain ⟨PR, hPR⟩ : ∃ z, (ptrRow s.rt).toArray = z := ⟨_, rfl⟩
      have hbn := build_set4 n o true s.rt
      rw [hbr.eq, hPR] at hbn
      have HBN := Lib.hid hbn
      have HPR := Lib.hid hPR
      have HAD := Lib.hid (fun W (b : Below w.heap.size w W) => hbr.eq ▸ padd15 v l ⟨n, o, true, s.rt⟩ W (h.below b) hs hv.ris hzn)
      clear har h hs ho hf hs0 hm hn hv hp hzn hbr hbn hPR
      go_enter Try.func27, Try.ntmps27
      go_wp2_with fail
      refine HF.out.mono ?_
      rintro e w2 ⟨rfl, hb2⟩
      have HB2 := Lib.hid hb2
      clear hb2
      go_upto_region 2 with (first
        | (with_reducible refine wpList_store_row (o := ⟨none, .store _ (.tmp 8) _, _, _, _, _⟩) rfl 38 _ _ rfl w2.heap.size AR rfl rfl 38 ZS (heap_alloc_new w2 _) HAR.out.sz (HZ.out.same HAR.out) HAR.out.one ?_))
      generalize hWs : World.setRow _ w2.heap.size _ = w3
      have hst := fresh15 w2 ZS AR 38 w3 hWs.symm
      have HR3 := Lib.hid hst.1
      have HB3 := Lib.hid (bt15 HB2.out hst.2)
      obtain ⟨d0, d1, d2, d3⟩ := set_atR hst.1 HAR.out
      have HP3 := Lib.hid d3
      have HXk := Lib.hid HB2.out.size
      clear hWs hst d3 HF
      generalize w2.heap.size = X at *
      rw [hsn] at d2
      go_wp2_with (first
        | (with_reducible refine ld_ptr15 (op := ⟨some 25, _, _, _, _, _⟩) (by kernel_rfl) _ rfl X 3 rfl s.rt _ HPR.out HP3.out ?_)
        | (with_reducible refine wpList_build_run (o := ⟨some 26, _, _, _, _, _⟩) rfl 38 _ rfl #[(0, .string n), (1, .string o), (2, .bool true), (3, .agg PR)] (by simp [Act.eval, Act.put]) (.agg BR) (HBN.out _) ?_))
      refine (HAD.out _ HB3.out).mono ?_
      rintro e w4 ⟨v', rfl, ho3, hb3⟩
      have HO := Lib.hid (ho3.up HB3.out.size)
      have HB4 := Lib.hid (bt15 HB3.out hb3)
      clear ho3 hb3
      go_wp2_with fail
      go_ret2
      exact ⟨_, by rw [HE.out]; rfl, by rw [HE.out]; exact HO.out, HB4.out⟩
  · have HE := Lib.hid (show snapD l o n = ((findD l o).2, []) by unfold snapD; rw [if_neg hf])
    obtain ⟨AR, har⟩ := setR (findD l o).1
    rw [har.eq] at HF
    have HAR := Lib.hid har
    clear har h hs ho
    generalize (findD l o).2 = E at *
    have h1 : (E == 0) = false := by simpa using hf
    have h2 : decide (E = 0) = false := by simpa using hf
    have h3 : (E != 0) = true := by simpa using hf
    go_enter Try.func27, Try.ntmps27
    go_wp2_with fail
    refine HF.out.mono ?_
    rintro e w2 ⟨rfl, hb2⟩
    have HB2 := Lib.hid hb2
    clear hb2
    go_wp2_with (first
      | (with_reducible refine wpList_store_row (o := ⟨none, .store _ (.tmp 8) _, _, _, _, _⟩) rfl 38 _ _ rfl w2.heap.size AR rfl rfl 38 ZS (heap_alloc_new w2 _) HAR.out.sz (HZ.out.same HAR.out) HAR.out.one ?_))
    go_ret2
    exact ⟨_, by rw [HE.out]; rfl, by rw [HE.out]; exact OWS.nil _ _, ybelow_row (HB2.out.alloc HB2.out.size _) HB2.out.size _⟩
set_option maxRecDepth 100000 in
set_option maxHeartbeats 3200000 in
theorem pclone15 (v : Value) (l : List SetV) (o n : ByteArray) (w : World) (h : LS w v l) (hs : l.length < 1000) (ho : ∀ s ∈ l, SetOk s) (hzn : n.size ≤ 140737488351232) :
    Calls Try.prog 28 #[v, .string o, .string n] w fun e w' => DoPost w (cloneD l o n) e w' := by
  have HF := Lib.hid (pfind15 v l o w h (by omega) ho)
  unfold FindPost at HF
  obtain ⟨ZS, hzs⟩ := setR zeroSet
  have hz := zero_set
  rw [hzs.eq] at hz
  have HZ := Lib.hid hzs
  clear hzs
  by_cases hf : (findD l o).2 = 0
  · obtain ⟨hv, hm, hn⟩ := find_cases l o hf
    rw [hf] at HF
    obtain ⟨s, hs0⟩ : ∃ s, (findD l o).1 = s := ⟨_, rfl⟩
    rw [hs0] at HF hm hn
    obtain ⟨AR, har⟩ := setR s
    rw [har.eq] at HF
    have HAR := Lib.hid har
    have hp := (ok_parts (hv.ok s hm))
    cases hsn : s.sn with
    | false =>
      have HE := Lib.hid (show cloneD l o n = (2, []) by unfold cloneD; rw [if_pos hf, hs0, hsn]; rfl)
      clear har h hs ho hf hs0 hm hn hv hp hzn
      go_enter Try.func28, Try.ntmps28
      go_wp2_with fail
      refine HF.out.mono ?_
      rintro e w2 ⟨rfl, hb2⟩
      have HB2 := Lib.hid hb2
      clear hb2
      go_upto_region 2 with (first
        | (with_reducible refine wpList_store_row (o := ⟨none, .store _ (.tmp 8) _, _, _, _, _⟩) rfl 38 _ _ rfl w2.heap.size AR rfl rfl 38 ZS (heap_alloc_new w2 _) HAR.out.sz (HZ.out.same HAR.out) HAR.out.one ?_))
      generalize hWs : World.setRow _ w2.heap.size _ = w3
      have hst := fresh15 w2 ZS AR 38 w3 hWs.symm
      have HR3 := Lib.hid hst.1
      have HB3 := Lib.hid (bt15 HB2.out hst.2)
      obtain ⟨d0, d1, d2, d3⟩ := set_atR hst.1 HAR.out
      have HP3 := Lib.hid d3
      have HXk := Lib.hid HB2.out.size
      clear hWs hst d3 HF
      generalize w2.heap.size = X at *
      rw [hsn] at d2
      go_wp2_with fail
      go_ret2
      exact ⟨_, by rw [HE.out]; rfl, by rw [HE.out]; exact OWS.nil _ _, HB3.out⟩
    | true =>
      have HE := Lib.hid (show cloneD l o n = addD l ⟨n, o, false, s.rt⟩ by unfold cloneD; rw [if_pos hf, hs0, hsn]; rfl)
      obtain ⟨BR, hbr⟩ := setR ⟨n, o, false, s.rt⟩
      obtain ⟨PR, hPR⟩ : ∃ z, (ptrRow s.rt).toArray = z := ⟨_, rfl⟩
      have hbn := build_set3 n o s.rt
      rw [hbr.eq, hPR] at hbn
      have HBN := Lib.hid hbn
      have HPR := Lib.hid hPR
      have HAD := Lib.hid (fun W (b : Below w.heap.size w W) => hbr.eq ▸ padd15 v l ⟨n, o, false, s.rt⟩ W (h.below b) hs hv.ris hzn)
      clear har h hs ho hf hs0 hm hn hv hp hzn hbr hbn hPR
      go_enter Try.func28, Try.ntmps28
      go_wp2_with fail
      refine HF.out.mono ?_
      rintro e w2 ⟨rfl, hb2⟩
      have HB2 := Lib.hid hb2
      clear hb2
      go_upto_region 2 with (first
        | (with_reducible refine wpList_store_row (o := ⟨none, .store _ (.tmp 8) _, _, _, _, _⟩) rfl 38 _ _ rfl w2.heap.size AR rfl rfl 38 ZS (heap_alloc_new w2 _) HAR.out.sz (HZ.out.same HAR.out) HAR.out.one ?_))
      generalize hWs : World.setRow _ w2.heap.size _ = w3
      have hst := fresh15 w2 ZS AR 38 w3 hWs.symm
      have HR3 := Lib.hid hst.1
      have HB3 := Lib.hid (bt15 HB2.out hst.2)
      obtain ⟨d0, d1, d2, d3⟩ := set_atR hst.1 HAR.out
      have HP3 := Lib.hid d3
      have HXk := Lib.hid HB2.out.size
      clear hWs hst d3 HF
      generalize w2.heap.size = X at *
      rw [hsn] at d2
      go_wp2_with (first
        | (with_reducible refine ld_ptr15 (op := ⟨some 26, _, _, _, _, _⟩) (by kernel_rfl) _ rfl X 3 rfl s.rt _ HPR.out HP3.out ?_)
        | (with_reducible refine wpList_build_run (o := ⟨some 27, _, _, _, _, _⟩) rfl 38 _ rfl #[(0, .string n), (1, .string o), (3, .agg PR)] (by simp [Act.eval, Act.put]) (.agg BR) (HBN.out _) ?_))
      refine (HAD.out _ HB3.out).mono ?_
      rintro e w4 ⟨v', rfl, ho3, hb3⟩
      have HO := Lib.hid (ho3.up HB3.out.size)
      have HB4 := Lib.hid (bt15 HB3.out hb3)
      clear ho3 hb3
      go_wp2_with fail
      go_ret2
      exact ⟨_, by rw [HE.out]; rfl, by rw [HE.out]; exact HO.out, HB4.out⟩
  · have HE := Lib.hid (show cloneD l o n = ((findD l o).2, []) by unfold cloneD; rw [if_neg hf])
    obtain ⟨AR, har⟩ := setR (findD l o).1
    rw [har.eq] at HF
    have HAR := Lib.hid har
    clear har h hs ho
    generalize (findD l o).2 = E at *
    have h1 : (E == 0) = false := by simpa using hf
    have h2 : decide (E = 0) = false := by simpa using hf
    have h3 : (E != 0) = true := by simpa using hf
    go_enter Try.func28, Try.ntmps28
    go_wp2_with fail
    refine HF.out.mono ?_
    rintro e w2 ⟨rfl, hb2⟩
    have HB2 := Lib.hid hb2
    clear hb2
    go_wp2_with (first
      | (with_reducible refine wpList_store_row (o := ⟨none, .store _ (.tmp 8) _, _, _, _, _⟩) rfl 38 _ _ rfl w2.heap.size AR rfl rfl 38 ZS (heap_alloc_new w2 _) HAR.out.sz (HZ.out.same HAR.out) HAR.out.one ?_))
    go_ret2
    exact ⟨_, by rw [HE.out]; rfl, by rw [HE.out]; exact OWS.nil _ _, ybelow_row (HB2.out.alloc HB2.out.size _) HB2.out.size _⟩
end Go.Proofs.Ytkafabcklohlmaa
