/-
  Datasets: the document's Create, Snap, Clone, Destroy, Rename, Do. (Written by tools/XIm.make.py.)
-/
import Derived.Test.YtkafabcklohlmaaIl
namespace Go.Proofs.Ytkafabcklohlmaa
set_option maxRecDepth 4000
set_option linter.unusedVariables false
open Go.ChangeShapes Go.WideShapes Go.ChangeAt Go.RowKit

set_option maxRecDepth 100000 in
set_option maxHeartbeats 3200000 in
theorem rcreate15 (v : Value) (l : List SetV) (n : ByteArray) (w : World) (h : LS w v l) (hs : l.length < 1000) (ho : ∀ s ∈ l, SetOk s) (hzn : n.size ≤ 140737488351232) :
    Calls Try.prog 34 #[v, .string n] w fun e w' => DoPost w (createD l n) e w' := by
  have HV := Lib.hid (rvalid15 v l w h (by omega) ho)
  cases hv : validB l with
  | false =>
    have HE := Lib.hid (show createD l n = (4, []) by unfold createD; rw [hv]; rfl)
    have hve : validE l = 4 := by unfold validE; rw [hv]; rfl
    rw [hve] at HV
    clear hv hve h hs ho hzn
    go_enter Try.func34, Try.ntmps34
    go_wp2_with fail
    refine HV.out.mono ?_
    rintro e w2 ⟨rfl, hb2⟩
    have HB2 := Lib.hid hb2
    clear hb2
    go_wp2_with fail
    go_ret2
    exact ⟨_, by rw [HE.out]; rfl, by rw [HE.out]; exact OWS.nil _ _, HB2.out⟩
  | true =>
    have HE := Lib.hid (show createD l n = addD l ⟨n, noS, false, zeroPtr⟩ by unfold createD; rw [hv]; rfl)
    have hve : validE l = 0 := by unfold validE; rw [hv]; rfl
    rw [hve] at HV
    have hr := (valid_iff.1 hv).ris
    have HNW := Lib.hid (fun W (b : Below w.heap.size w W) => rnew15 v l n W (h.below b) (by omega) hr hzn)
    obtain ⟨BR, hbr⟩ := setR ⟨n, noS, false, zeroPtr⟩
    have HWI := Lib.hid (fun W (b : Below w.heap.size w W) => hbr.eq ▸ rwith15 v l ⟨n, noS, false, zeroPtr⟩ W (h.below b) (by omega))
    have hbn := build_set1 n
    rw [hbr.eq] at hbn
    have hb1 := Lib.hid hbn
    clear hv hve h hs ho hzn hr hbr hbn
    by_cases hf : freshE l n = 0
    · have HEE := Lib.hid (show createD l n = (0, withL l ⟨n, noS, false, zeroPtr⟩) by rw [HE.out]; unfold addD; rw [if_pos hf])
      rw [hf] at HNW
      clear hf
      go_enter Try.func34, Try.ntmps34
      go_wp2_with fail
      refine HV.out.mono ?_
      rintro e w2 ⟨rfl, hb2⟩
      have HB2 := Lib.hid hb2
      clear hb2
      go_wp2_with fail
      refine (HNW.out _ HB2.out).mono ?_
      rintro e w3 ⟨rfl, hb3⟩
      have HB3 := Lib.hid (bt15 HB2.out hb3)
      clear hb3
      go_wp2_with (first
        | (with_reducible refine wpList_build_run (o := ⟨some 21, _, _, _, _, _⟩) rfl 38 _ rfl #[(0, .string n)] (by simp [Act.eval]) (.agg BR) (hb1.out _) ?_))
      refine (HWI.out _ HB3.out).mono ?_
      rintro e w4 ⟨v', rfl, ho4, hb4⟩
      have HO := Lib.hid (ho4.up HB3.out.size)
      have HB4 := Lib.hid (bt15 HB3.out hb4)
      clear ho4 hb4
      go_wp2_with fail
      go_ret2
      exact ⟨_, by rw [HEE.out]; rfl, by rw [HEE.out]; exact HO.out, HB4.out⟩
    · have HEE := Lib.hid (show createD l n = (freshE l n, []) by rw [HE.out]; unfold addD; rw [if_neg hf])
      generalize freshE l n = E at *
      have h1 : (E == 0) = false := by simpa using hf
      have h2 : decide (E = 0) = false := by simpa using hf
      have h3 : (E != 0) = true := by simpa using hf
      go_enter Try.func34, Try.ntmps34
      go_wp2_with fail
      refine HV.out.mono ?_
      rintro e w2 ⟨rfl, hb2⟩
      have HB2 := Lib.hid hb2
      clear hb2
      go_wp2_with fail
      refine (HNW.out _ HB2.out).mono ?_
      rintro e w3 ⟨rfl, hb3⟩
      have HB3 := Lib.hid (bt15 HB2.out hb3)
      clear hb3
      go_wp2_with fail
      go_ret2
      exact ⟨_, by rw [HEE.out]; rfl, by rw [HEE.out]; exact OWS.nil _ _, HB3.out⟩
set_option maxRecDepth 100000 in
set_option maxHeartbeats 3200000 in
theorem rsnap15 (v : Value) (l : List SetV) (o n : ByteArray) (w : World) (h : LS w v l) (hs : l.length < 1000) (ho : ∀ s ∈ l, SetOk s) (hzn : n.size ≤ 140737488351232) :
    Calls Try.prog 30 #[v, .string o, .string n] w fun e w' => DoPost w (snapD l o n) e w' := by
  have HF := Lib.hid (rfind15 v l o w h (by omega) ho)
  unfold FindPost at HF
  obtain ⟨ZS, hzs⟩ := setR zeroSet
  have hz := zero_set
  rw [hzs.eq] at hz
  have HZ := Lib.hid hzs
  clear hzs
  by_cases hf : (findD l o).2 = 0
  · obtain ⟨hv, hm, hn⟩ := find_cases l o hf
    rw [hf] at HF
    obtain ⟨s, hs0⟩ : ∃ s, (findD l o).1 = s := ⟨_, rfl⟩
    rw [hs0] at HF hm hn
    obtain ⟨AR, har⟩ := setR s
    rw [har.eq] at HF
    have HAR := Lib.hid har
    cases hsn : s.sn with
    | true =>
      have HE := Lib.hid (show snapD l o n = (10, []) by unfold snapD; rw [if_pos hf, hs0, hsn]; rfl)
      clear har h hs ho hf hs0 hm hn hv hzn
      go_enter Try.func30, Try.ntmps30
      go_wp2_with fail
      refine HF.out.mono ?_
      rintro e w2 ⟨rfl, hb2⟩
      have HB2 := Lib.hid hb2
      clear hb2
      go_upto_region 2 with (first
        | (with_reducible refine wpList_store_row (o := ⟨none, .store _ (.tmp 8) _, _, _, _, _⟩) rfl 38 _ _ rfl w2.heap.size AR rfl rfl 38 ZS (heap_alloc_new w2 _) HAR.out.sz (HZ.out.same HAR.out) HAR.out.one ?_))
      generalize hWs : World.setRow _ w2.heap.size _ = w3
      have hst := fresh15 w2 ZS AR 38 w3 hWs.symm
      have HR3 := Lib.hid hst.1
      have HB3 := Lib.hid (bt15 HB2.out hst.2)
      obtain ⟨d0, d1, d2, d3⟩ := set_atR hst.1 HAR.out
      have HP3 := Lib.hid d3
      have HXk := Lib.hid HB2.out.size
      clear hWs hst d3 HF
      generalize w2.heap.size = X at *
      rw [hsn] at d2
      go_wp2_with fail
      go_ret2
      exact ⟨_, by rw [HE.out]; rfl, by rw [HE.out]; exact OWS.nil _ _, HB3.out⟩
    | false =>
      have HE := Lib.hid (show snapD l o n = addD l ⟨n, o, true, s.rt⟩ by unfold snapD; rw [if_pos hf, hs0, hsn]; rfl)
      obtain ⟨BR, hbr⟩ := setR ⟨n, o, true, s.rt⟩
      obtain ⟨PR, hPR⟩ : ∃ z, (ptrRow s.rt).toArray = z := ⟨_, rfl⟩
      have hbn := build_set4 n o true s.rt
      rw [hbr.eq, hPR] at hbn
      have HBN := Lib.hid hbn
      have HPR := Lib.hid hPR
      have HNW := Lib.hid (fun W (b : Below w.heap.size w W) => rnew15 v l n W (h.below b) (by omega) hv.ris hzn)
      have HWI := Lib.hid (fun W (b : Below w.heap.size w W) => hbr.eq ▸ rwith15 v l ⟨n, o, true, s.rt⟩ W (h.below b) (by omega))
      clear har h hs ho hf hs0 hm hn hv hzn hbr hbn hPR
      by_cases hg : freshE l n = 0
      · have HEE := Lib.hid (show snapD l o n = (0, withL l ⟨n, o, true, s.rt⟩) by rw [HE.out]; unfold addD; rw [if_pos hg])
        rw [hg] at HNW
        clear hg
        go_enter Try.func30, Try.ntmps30
        go_wp2_with fail
        refine HF.out.mono ?_
        rintro e w2 ⟨rfl, hb2⟩
        have HB2 := Lib.hid hb2
        clear hb2
        go_upto_region 2 with (first
          | (with_reducible refine wpList_store_row (o := ⟨none, .store _ (.tmp 8) _, _, _, _, _⟩) rfl 38 _ _ rfl w2.heap.size AR rfl rfl 38 ZS (heap_alloc_new w2 _) HAR.out.sz (HZ.out.same HAR.out) HAR.out.one ?_))
        generalize hWs : World.setRow _ w2.heap.size _ = w3
        have hst := fresh15 w2 ZS AR 38 w3 hWs.symm
        have HR3 := Lib.hid hst.1
        have HB3 := Lib.hid (bt15 HB2.out hst.2)
        obtain ⟨d0, d1, d2, d3⟩ := set_atR hst.1 HAR.out
        have HP3 := Lib.hid d3
        have HXk := Lib.hid HB2.out.size
        clear hWs hst d3 HF
        generalize w2.heap.size = X at *
        rw [hsn] at d2
        go_wp2_with fail
        refine (HNW.out _ HB3.out).mono ?_
        rintro e w4 ⟨rfl, hb4⟩
        have HB4 := Lib.hid (bt15 HB3.out hb4)
        have HP4 := Lib.hid (range_below HP3.out hb4)
        clear hb4 d0 d1 d2
        go_wp2_with (first
          | (with_reducible refine ld_ptr15 (op := ⟨some 32, _, _, _, _, _⟩) (by kernel_rfl) _ rfl X 3 rfl s.rt _ HPR.out HP4.out ?_)
          | (with_reducible refine wpList_build_run (o := ⟨some 33, _, _, _, _, _⟩) rfl 38 _ rfl #[(0, .string n), (1, .string o), (2, .bool true), (3, .agg PR)] (by simp [Act.eval, Act.put]) (.agg BR) (HBN.out _) ?_))
        refine (HWI.out _ HB4.out).mono ?_
        rintro e w5 ⟨v', rfl, ho5, hb5⟩
        have HO := Lib.hid (ho5.up HB4.out.size)
        have HB5 := Lib.hid (bt15 HB4.out hb5)
        clear ho5 hb5
        go_wp2_with fail
        go_ret2
        exact ⟨_, by rw [HEE.out]; rfl, by rw [HEE.out]; exact HO.out, HB5.out⟩
      · have HEE := Lib.hid (show snapD l o n = (freshE l n, []) by rw [HE.out]; unfold addD; rw [if_neg hg])
        generalize freshE l n = E at *
        have h1 : (E == 0) = false := by simpa using hg
        have h2 : decide (E = 0) = false := by simpa using hg
        have h3 : (E != 0) = true := by simpa using hg
        go_enter Try.func30, Try.ntmps30
        go_wp2_with fail
        refine HF.out.mono ?_
        rintro e w2 ⟨rfl, hb2⟩
        have HB2 := Lib.hid hb2
        clear hb2
        go_upto_region 2 with (first
          | (with_reducible refine wpList_store_row (o := ⟨none, .store _ (.tmp 8) _, _, _, _, _⟩) rfl 38 _ _ rfl w2.heap.size AR rfl rfl 38 ZS (heap_alloc_new w2 _) HAR.out.sz (HZ.out.same HAR.out) HAR.out.one ?_))
        generalize hWs : World.setRow _ w2.heap.size _ = w3
        have hst := fresh15 w2 ZS AR 38 w3 hWs.symm
        have HR3 := Lib.hid hst.1
        have HB3 := Lib.hid (bt15 HB2.out hst.2)
        obtain ⟨d0, d1, d2, d3⟩ := set_atR hst.1 HAR.out
        have HP3 := Lib.hid d3
        have HXk := Lib.hid HB2.out.size
        clear hWs hst d3 HF
        generalize w2.heap.size = X at *
        rw [hsn] at d2
        go_wp2_with fail
        refine (HNW.out _ HB3.out).mono ?_
        rintro e w4 ⟨rfl, hb4⟩
        have HB4 := Lib.hid (bt15 HB3.out hb4)
        have HP4 := Lib.hid (range_below HP3.out hb4)
        clear hb4 d0 d1 d2
        go_wp2_with fail
        go_ret2
        exact ⟨_, by rw [HEE.out]; rfl, by rw [HEE.out]; exact OWS.nil _ _, HB4.out⟩
  · have HE := Lib.hid (show snapD l o n = ((findD l o).2, []) by unfold snapD; rw [if_neg hf])
    obtain ⟨AR, har⟩ := setR (findD l o).1
    rw [har.eq] at HF
    have HAR := Lib.hid har
    clear har h hs ho
    generalize (findD l o).2 = E at *
    have h1 : (E == 0) = false := by simpa using hf
    have h2 : decide (E = 0) = false := by simpa using hf
    have h3 : (E != 0) = true := by simpa using hf
    go_enter Try.func30, Try.ntmps30
    go_wp2_with fail
    refine HF.out.mono ?_
    rintro e w2 ⟨rfl, hb2⟩
    have HB2 := Lib.hid hb2
    clear hb2
    go_wp2_with (first
      | (with_reducible refine wpList_store_row (o := ⟨none, .store _ (.tmp 8) _, _, _, _, _⟩) rfl 38 _ _ rfl w2.heap.size AR rfl rfl 38 ZS (heap_alloc_new w2 _) HAR.out.sz (HZ.out.same HAR.out) HAR.out.one ?_))
    go_ret2
    exact ⟨_, by rw [HE.out]; rfl, by rw [HE.out]; exact OWS.nil _ _, ybelow_row (HB2.out.alloc HB2.out.size _) HB2.out.size _⟩
set_option maxRecDepth 100000 in
set_option maxHeartbeats 3200000 in
theorem rclone15 (v : Value) (l : List SetV) (o n : ByteArray) (w : World) (h : LS w v l) (hs : l.length < 1000) (ho : ∀ s ∈ l, SetOk s) (hzn : n.size ≤ 140737488351232) :
    Calls Try.prog 31 #[v, .string o, .string n] w fun e w' => DoPost w (cloneD l o n) e w' := by
  have HF := Lib.hid (rfind15 v l o w h (by omega) ho)
  unfold FindPost at HF
  obtain ⟨ZS, hzs⟩ := setR zeroSet
  have hz := zero_set
  rw [hzs.eq] at hz
  have HZ := Lib.hid hzs
  clear hzs
  by_cases hf : (findD l o).2 = 0
  · obtain ⟨hv, hm, hn⟩ := find_cases l o hf
    rw [hf] at HF
    obtain ⟨s, hs0⟩ : ∃ s, (findD l o).1 = s := ⟨_, rfl⟩
    rw [hs0] at HF hm hn
    obtain ⟨AR, har⟩ := setR s
    rw [har.eq] at HF
    have HAR := Lib.hid har
    cases hsn : s.sn with
    | false =>
      have HE := Lib.hid (show cloneD l o n = (2, []) by unfold cloneD; rw [if_pos hf, hs0, hsn]; rfl)
      clear har h hs ho hf hs0 hm hn hv hzn
      go_enter Try.func31, Try.ntmps31
      go_wp2_with fail
      refine HF.out.mono ?_
      rintro e w2 ⟨rfl, hb2⟩
      have HB2 := Lib.hid hb2
      clear hb2
      go_upto_region 2 with (first
        | (with_reducible refine wpList_store_row (o := ⟨none, .store _ (.tmp 8) _, _, _, _, _⟩) rfl 38 _ _ rfl w2.heap.size AR rfl rfl 38 ZS (heap_alloc_new w2 _) HAR.out.sz (HZ.out.same HAR.out) HAR.out.one ?_))
      generalize hWs : World.setRow _ w2.heap.size _ = w3
      have hst := fresh15 w2 ZS AR 38 w3 hWs.symm
      have HR3 := Lib.hid hst.1
      have HB3 := Lib.hid (bt15 HB2.out hst.2)
      obtain ⟨d0, d1, d2, d3⟩ := set_atR hst.1 HAR.out
      have HP3 := Lib.hid d3
      have HXk := Lib.hid HB2.out.size
      clear hWs hst d3 HF
      generalize w2.heap.size = X at *
      rw [hsn] at d2
      go_wp2_with fail
      go_ret2
      exact ⟨_, by rw [HE.out]; rfl, by rw [HE.out]; exact OWS.nil _ _, HB3.out⟩
    | true =>
      have HE := Lib.hid (show cloneD l o n = addD l ⟨n, o, false, s.rt⟩ by unfold cloneD; rw [if_pos hf, hs0, hsn]; rfl)
      obtain ⟨BR, hbr⟩ := setR ⟨n, o, false, s.rt⟩
      obtain ⟨PR, hPR⟩ : ∃ z, (ptrRow s.rt).toArray = z := ⟨_, rfl⟩
      have hbn := build_set3 n o s.rt
      rw [hbr.eq, hPR] at hbn
      have HBN := Lib.hid hbn
      have HPR := Lib.hid hPR
      have HNW := Lib.hid (fun W (b : Below w.heap.size w W) => rnew15 v l n W (h.below b) (by omega) hv.ris hzn)
      have HWI := Lib.hid (fun W (b : Below w.heap.size w W) => hbr.eq ▸ rwith15 v l ⟨n, o, false, s.rt⟩ W (h.below b) (by omega))
      clear har h hs ho hf hs0 hm hn hv hzn hbr hbn hPR
      by_cases hg : freshE l n = 0
      · have HEE := Lib.hid (show cloneD l o n = (0, withL l ⟨n, o, false, s.rt⟩) by rw [HE.out]; unfold addD; rw [if_pos hg])
        rw [hg] at HNW
        clear hg
        go_enter Try.func31, Try.ntmps31
        go_wp2_with fail
        refine HF.out.mono ?_
        rintro e w2 ⟨rfl, hb2⟩
        have HB2 := Lib.hid hb2
        clear hb2
        go_upto_region 2 with (first
          | (with_reducible refine wpList_store_row (o := ⟨none, .store _ (.tmp 8) _, _, _, _, _⟩) rfl 38 _ _ rfl w2.heap.size AR rfl rfl 38 ZS (heap_alloc_new w2 _) HAR.out.sz (HZ.out.same HAR.out) HAR.out.one ?_))
        generalize hWs : World.setRow _ w2.heap.size _ = w3
        have hst := fresh15 w2 ZS AR 38 w3 hWs.symm
        have HR3 := Lib.hid hst.1
        have HB3 := Lib.hid (bt15 HB2.out hst.2)
        obtain ⟨d0, d1, d2, d3⟩ := set_atR hst.1 HAR.out
        have HP3 := Lib.hid d3
        have HXk := Lib.hid HB2.out.size
        clear hWs hst d3 HF
        generalize w2.heap.size = X at *
        rw [hsn] at d2
        go_wp2_with fail
        refine (HNW.out _ HB3.out).mono ?_
        rintro e w4 ⟨rfl, hb4⟩
        have HB4 := Lib.hid (bt15 HB3.out hb4)
        have HP4 := Lib.hid (range_below HP3.out hb4)
        clear hb4 d0 d1 d2
        go_wp2_with (first
          | (with_reducible refine ld_ptr15 (op := ⟨some 33, _, _, _, _, _⟩) (by kernel_rfl) _ rfl X 3 rfl s.rt _ HPR.out HP4.out ?_)
          | (with_reducible refine wpList_build_run (o := ⟨some 34, _, _, _, _, _⟩) rfl 38 _ rfl #[(0, .string n), (1, .string o), (3, .agg PR)] (by simp [Act.eval, Act.put]) (.agg BR) (HBN.out _) ?_))
        refine (HWI.out _ HB4.out).mono ?_
        rintro e w5 ⟨v', rfl, ho5, hb5⟩
        have HO := Lib.hid (ho5.up HB4.out.size)
        have HB5 := Lib.hid (bt15 HB4.out hb5)
        clear ho5 hb5
        go_wp2_with fail
        go_ret2
        exact ⟨_, by rw [HEE.out]; rfl, by rw [HEE.out]; exact HO.out, HB5.out⟩
      · have HEE := Lib.hid (show cloneD l o n = (freshE l n, []) by rw [HE.out]; unfold addD; rw [if_neg hg])
        generalize freshE l n = E at *
        have h1 : (E == 0) = false := by simpa using hg
        have h2 : decide (E = 0) = false := by simpa using hg
        have h3 : (E != 0) = true := by simpa using hg
        go_enter Try.func31, Try.ntmps31
        go_wp2_with fail
        refine HF.out.mono ?_
        rintro e w2 ⟨rfl, hb2⟩
        have HB2 := Lib.hid hb2
        clear hb2
        go_upto_region 2 with (first
          | (with_reducible refine wpList_store_row (o := ⟨none, .store _ (.tmp 8) _, _, _, _, _⟩) rfl 38 _ _ rfl w2.heap.size AR rfl rfl 38 ZS (heap_alloc_new w2 _) HAR.out.sz (HZ.out.same HAR.out) HAR.out.one ?_))
        generalize hWs : World.setRow _ w2.heap.size _ = w3
        have hst := fresh15 w2 ZS AR 38 w3 hWs.symm
        have HR3 := Lib.hid hst.1
        have HB3 := Lib.hid (bt15 HB2.out hst.2)
        obtain ⟨d0, d1, d2, d3⟩ := set_atR hst.1 HAR.out
        have HP3 := Lib.hid d3
        have HXk := Lib.hid HB2.out.size
        clear hWs hst d3 HF
        generalize w2.heap.size = X at *
        rw [hsn] at d2
        go_wp2_with fail
        refine (HNW.out _ HB3.out).mono ?_
        rintro e w4 ⟨rfl, hb4⟩
        have HB4 := Lib.hid (bt15 HB3.out hb4)
        have HP4 := Lib.hid (range_below HP3.out hb4)
        clear hb4 d0 d1 d2
        go_wp2_with fail
        go_ret2
        exact ⟨_, by rw [HEE.out]; rfl, by rw [HEE.out]; exact OWS.nil _ _, HB4.out⟩
  · have HE := Lib.hid (show cloneD l o n = ((findD l o).2, []) by unfold cloneD; rw [if_neg hf])
    obtain ⟨AR, har⟩ := setR (findD l o).1
    rw [har.eq] at HF
    have HAR := Lib.hid har
    clear har h hs ho
    generalize (findD l o).2 = E at *
    have h1 : (E == 0) = false := by simpa using hf
    have h2 : decide (E = 0) = false := by simpa using hf
    have h3 : (E != 0) = true := by simpa using hf
    go_enter Try.func31, Try.ntmps31
    go_wp2_with fail
    refine HF.out.mono ?_
    rintro e w2 ⟨rfl, hb2⟩
    have HB2 := Lib.hid hb2
    clear hb2
    go_wp2_with (first
      | (with_reducible refine wpList_store_row (o := ⟨none, .store _ (.tmp 8) _, _, _, _, _⟩) rfl 38 _ _ rfl w2.heap.size AR rfl rfl 38 ZS (heap_alloc_new w2 _) HAR.out.sz (HZ.out.same HAR.out) HAR.out.one ?_))
    go_ret2
    exact ⟨_, by rw [HE.out]; rfl, by rw [HE.out]; exact OWS.nil _ _, ybelow_row (HB2.out.alloc HB2.out.size _) HB2.out.size _⟩
set_option maxRecDepth 100000 in
set_option maxHeartbeats 3200000 in
theorem rdest15 (v : Value) (l : List SetV) (n : ByteArray) (w : World) (h : LS w v l) (hs : l.length < 1000) (ho : ∀ s ∈ l, SetOk s) :
    Calls Try.prog 32 #[v, .string n] w fun e w' => DoPost w (destD l n) e w' := by
  have HF := Lib.hid (rfind15 v l n w h (by omega) ho)
  unfold FindPost at HF
  obtain ⟨ZS, hzs⟩ := setR zeroSet
  have hz := zero_set
  rw [hzs.eq] at hz
  have HZ := Lib.hid hzs
  clear hzs
  by_cases hf : (findD l n).2 = 0
  · obtain ⟨hv, hm, hn⟩ := find_cases l n hf
    rw [hf] at HF
    obtain ⟨AR0, har0⟩ := setR (findD l n).1
    rw [har0.eq] at HF
    have HAR0 := Lib.hid har0
    have HFI := Lib.hid hf
    have HLS := Lib.hid h
    obtain ⟨k, hk⟩ : ∃ k, l.length = k := ⟨_, rfl⟩
    have HN := Lib.hid hk
    have nI : (k : Int) ≤ 1000 := by omega
    have n0 : (0 : Int) ≤ (k : Int) := by omega
    clear har0 h ho hf hm hn hv hs hk
    go_enter Try.func32, Try.ntmps32
    go_wp2_with fail
    refine HF.out.mono ?_
    rintro e w2 ⟨rfl, hb2⟩
    have HB2 := Lib.hid hb2
    clear hb2
    go_upto_region 2 with (first
      | (with_reducible refine wpList_store_row (o := ⟨none, .store _ (.tmp 6) _, _, _, _, _⟩) rfl 38 _ _ rfl w2.heap.size AR0 rfl rfl 38 ZS (heap_alloc_new w2 _) HAR0.out.sz (HZ.out.same HAR0.out) HAR0.out.one ?_))
    generalize hWs : World.setRow _ w2.heap.size _ = w3
    have hst := fresh15 w2 ZS AR0 38 w3 hWs.symm
    have HR3 := Lib.hid hst.1
    have HB3 := Lib.hid (bt15 HB2.out hst.2)
    obtain ⟨d0, d1, d2, d3⟩ := set_atR hst.1 HAR0.out
    have HP3 := Lib.hid d3
    have HXk := Lib.hid HB2.out.size
    clear hWs hst d3 HF
    generalize w2.heap.size = X at *
    obtain ⟨a, c, rfl, hc, hat⟩ := HLS.out.below HB3.out
    have HA := Lib.hid hat
    clear hat hc HLS d0 d1 d2
    rw [HN.out]
    go_wp2_with fail
    go_loopw [8, 10, 22] (fun v8 _ v22 wr => ∃ i : Nat, i ≤ k ∧ v22 = .int .i64 (i : Int) ∧ OWS wr w3.heap.size v8 ((l.take i).filter (fun x => decide (x.nm ≠ n))) ∧ (∀ s ∈ l.take i, s.fr ≠ n) ∧ Below w3.heap.size w3 wr) (fun _ _ v _ => k - (intOf v).toNat)
    case atStart => exact ⟨0, Nat.zero_le _, rfl, OWS.nil _ _, fun s hs => by simp at hs, Below.refl _ _⟩
    case round =>
      obtain ⟨i, hi, rfl, ho, hu, hb⟩ := hrel
      have HB := Lib.hid hb
      have HO := Lib.hid ho
      have HU := Lib.hid hu
      clear hb ho hu
      by_cases hlt : i < k
      · obtain ⟨q, hq⟩ : ∃ q, l[i]? = some q := ⟨_, List.getElem?_eq_getElem (by rw [HN.out]; exact hlt)⟩
        obtain ⟨b, off, rfl, hrg⟩ := HA.out i q hq
        have HRG := Lib.hid (range_below hrg HB.out)
        have hix := index_set b off k c i hlt
        obtain ⟨AR, har⟩ := setR q
        have HAR := Lib.hid har
        have HQ := Lib.hid hq
        have HLT := Lib.hid hlt
        have iI : (i : Int) < (k : Int) := by omega
        have i0 : (0 : Int) ≤ (i : Int) := by omega
        clear hlt hrg hq hi
        go_upto_region 8 with (first
          | (with_reducible refine ld_set (op := ⟨some 25, _, _, _, _, _⟩) rfl _ rfl b (off + i * 37) rfl q _ HAR.out.eq HRG.out ?_)
          | (with_reducible refine wpList_store_row (o := ⟨none, .store _ (.tmp 10) _, _, _, _, _⟩) rfl 38 _ _ rfl wr.heap.size AR rfl rfl 38 ZS (heap_alloc_new wr _) HAR.out.sz (HZ.out.same HAR.out) HAR.out.one ?_))
        generalize hWs : World.setRow _ wr.heap.size _ = wk
        have hst := fresh15 wr ZS AR 38 wk hWs.symm
        have HRk := Lib.hid hst.1
        have HBk := Lib.hid (bt15 HB.out hst.2)
        obtain ⟨d0, d1, d2, d3⟩ := set_atR hst.1 har
        have HXk := Lib.hid (show w3.heap.size ≤ wr.heap.size from HB.out.size)
        have HOk := Lib.hid (HO.out.below hst.2)
        clear hWs hst hix har HRG
        generalize wr.heap.size = Y at *
        have hs1 := str_beq q.fr n
        have hs2 := str_beq q.nm n
        have HFN := Lib.hid (filter_next (fun x => decide (x.nm ≠ n)) HQ.out)
        have HFL := Lib.hid (filter_len (fun x => decide (x.nm ≠ n)) l i)
        by_cases hf : q.fr = n
        · rw [decide_eq_true hf] at hs1
          have HE := Lib.hid (show destD l n = (11, []) by unfold destD; rw [if_pos HFI.out, if_pos (by unfold usedB; rw [List.any_eq_true]; exact ⟨q, List.mem_of_getElem? HQ.out, by rw [hf]; simp⟩)])
          clear hf
          go_wp2_with fail
          go_ret2
          exact ⟨_, by rw [HE.out]; rfl, by rw [HE.out]; exact OWS.nil _ _, bt15 HB3.out HBk.out⟩
        · rw [decide_eq_false hf] at hs1
          have HU2 := Lib.hid (show ∀ s ∈ l.take (i + 1), s.fr ≠ n from fun s hs => by rw [take_next15 HQ.out, List.mem_append, List.mem_singleton] at hs; rcases hs with hs | rfl; exact HU.out s hs; exact hf)
          clear hf
          by_cases hm : q.nm = n
          · rw [decide_eq_true hm] at hs2
            have HO2 := Lib.hid (show OWS wk w3.heap.size _ ((l.take (i + 1)).filter (fun x => decide (x.nm ≠ n))) by rw [HFN.out, if_neg (by simp [hm])]; exact HOk.out)
            clear hm HFN
            go_wp2_with fail
            go_roundw
            case rel => exact ⟨i + 1, by have := HLT.out; omega, by go_num, HO2.out, HU2.out, HBk.out⟩
            case measure => simp [intOf]; have := HLT.out; omega
          · rw [decide_eq_false hm] at hs2
            have HFT := Lib.hid (HFN.out.trans (if_pos (by simp [hm])))
            obtain ⟨v', w9, hru, ho9, hb9⟩ := ows_one HOk.out HBk.out.size HAR.out (by have := HFL.out; have := HN.out; omega) 22
            have HRU := Lib.hid hru
            have HO9 := Lib.hid ho9
            have HB9 := Lib.hid (hb9 _ rfl HBk.out)
            have HLI := Lib.hid (show (Instr.buildSlice 22 1 #[(0, .agg AR)]).run Try.prog wk = .ok (.slice (some ⟨wk.heap.size, 0, none⟩) 1 1) (World.alloc wk (.cells AR 38)) from HAR.out.eq ▸ lit_set _ wk)
            clear hru ho9 hb9
            have HO2 := Lib.hid (show OWS w9 w3.heap.size v' ((l.take (i + 1)).filter (fun x => decide (x.nm ≠ n))) by rw [HFT.out]; exact HO9.out)
            clear hm HFN HFT
            go_wp2_with (first
              | (with_reducible refine wpList_load_row (o := ⟨some 35, _, _, _, _, _⟩) rfl 38 _ rfl Y rfl 38 AR (0, 0) _ HRk.out Try.underlying38 rfl HAR.out.sz ?_)
              | (refine wpList_lit_run (o := ⟨some 36, _, _, _, _, _⟩) rfl _ _ _ rfl #[(0, .agg AR)] (by simp [Act.eval, Act.put]) _ _ HLI.out ?_)
              | (at_builtin; refine wpList_append_run (o := ⟨some 37, _, _, _, _, _⟩) rfl _ _ _ _ rfl _ _ _ _ rfl rfl HRU.out ?_))
            go_roundw
            case rel => exact ⟨i + 1, by have := HLT.out; omega, by go_num, HO2.out, HU2.out, HB9.out⟩
            case measure => simp [intOf]; have := HLT.out; omega
      · obtain rfl : k = i := by omega
        have HO2 := Lib.hid (show OWS wr w.heap.size _ (lessL l n) by have h := HO.out; rw [List.take_of_length_le (by rw [HN.out]; exact Nat.le_refl _)] at h; exact h.up HB3.out.size)
        have HE := Lib.hid (show destD l n = (0, lessL l n) by unfold destD; rw [if_pos HFI.out, if_neg]; intro h; unfold usedB at h; rw [List.any_eq_true] at h; obtain ⟨x, hx, e⟩ := h; exact HU.out x (by rw [List.take_of_length_le (by rw [HN.out]; exact Nat.le_refl _)]; exact hx) (by simpa using e))
        clear hi hlt HO
        go_wp2_with fail
        go_ret2
        exact ⟨_, by rw [HE.out]; rfl, by rw [HE.out]; exact HO2.out, bt15 HB3.out HB.out⟩
  · have HE := Lib.hid (show destD l n = ((findD l n).2, []) by unfold destD; rw [if_neg hf])
    obtain ⟨AR, har⟩ := setR (findD l n).1
    rw [har.eq] at HF
    have HAR := Lib.hid har
    clear har h hs ho
    generalize (findD l n).2 = E at *
    have h1 : (E == 0) = false := by simpa using hf
    have h2 : decide (E = 0) = false := by simpa using hf
    have h3 : (E != 0) = true := by simpa using hf
    go_enter Try.func32, Try.ntmps32
    go_wp2_with fail
    refine HF.out.mono ?_
    rintro e w2 ⟨rfl, hb2⟩
    have HB2 := Lib.hid hb2
    clear hb2
    go_wp2_with (first
      | (with_reducible refine wpList_store_row (o := ⟨none, .store _ (.tmp 6) _, _, _, _, _⟩) rfl 38 _ _ rfl w2.heap.size AR rfl rfl 38 ZS (heap_alloc_new w2 _) HAR.out.sz (HZ.out.same HAR.out) HAR.out.one ?_))
    go_ret2
    exact ⟨_, by rw [HE.out]; rfl, by rw [HE.out]; exact OWS.nil _ _, ybelow_row (HB2.out.alloc HB2.out.size _) HB2.out.size _⟩
theorem setR_fr {AR : Array Value} {s : SetV} (h : SetR AR s) (n : ByteArray) : SetR (AR.setIfInBounds 1 (.string n)) ⟨s.nm, n, s.sn, s.rt⟩ := by
  have e : (setRow ⟨s.nm, n, s.sn, s.rt⟩).toArray = AR.setIfInBounds 1 (.string n) := by
    rw [← h.eq]
    rfl
  obtain ⟨BR, hb⟩ := setR ⟨s.nm, n, s.sn, s.rt⟩
  rw [← e, hb.eq]
  exact hb
set_option maxRecDepth 100000 in
set_option maxHeartbeats 3200000 in
theorem rren15 (v : Value) (l : List SetV) (o n : ByteArray) (w : World) (h : LS w v l) (hs : l.length < 1000) (ho : ∀ s ∈ l, SetOk s) (hzn : n.size ≤ 140737488351232) :
    Calls Try.prog 33 #[v, .string o, .string n] w fun e w' => DoPost w (renD l o n) e w' := by
  have HF := Lib.hid (rfind15 v l o w h (by omega) ho)
  unfold FindPost at HF
  obtain ⟨ZS, hzs⟩ := setR zeroSet
  have hz := zero_set
  rw [hzs.eq] at hz
  have HZ := Lib.hid hzs
  clear hzs
  by_cases hf : (findD l o).2 = 0
  · obtain ⟨hv, hm, hn⟩ := find_cases l o hf
    rw [hf] at HF
    obtain ⟨s, hs0⟩ : ∃ s, (findD l o).1 = s := ⟨_, rfl⟩
    rw [hs0] at HF hm hn
    obtain ⟨AR0, har0⟩ := setR s
    rw [har0.eq] at HF
    have HAR0 := Lib.hid har0
    have HNW := Lib.hid (fun W (b : Below w.heap.size w W) => rnew15 v l n W (h.below b) (by omega) hv.ris hzn)
    have HLS := Lib.hid h
    by_cases hg : freshE l n = 0
    · have HE := Lib.hid (show renD l o n = (0, withL ((lessL l o).map (renS o n)) ⟨n, s.fr, s.sn, s.rt⟩) by unfold renD; rw [if_pos hf, if_pos hg, hs0]; rfl)
      rw [hg] at HNW
      obtain ⟨k, hk⟩ : ∃ k, l.length = k := ⟨_, rfl⟩
      have HN := Lib.hid hk
      have HK := Lib.hid (show k < 1000 by omega)
      have nI : (k : Int) ≤ 1000 := by omega
      have n0 : (0 : Int) ≤ (k : Int) := by omega
      clear har0 h hs ho hf hs0 hm hn hv hg hk
      go_enter Try.func33, Try.ntmps33
      go_wp2_with fail
      refine HF.out.mono ?_
      rintro e w2 ⟨rfl, hb2⟩
      have HB2 := Lib.hid hb2
      clear hb2
      go_upto_region 2 with (first
        | (with_reducible refine wpList_store_row (o := ⟨none, .store _ (.tmp 8) _, _, _, _, _⟩) rfl 38 _ _ rfl w2.heap.size AR0 rfl rfl 38 ZS (heap_alloc_new w2 _) HAR0.out.sz (HZ.out.same HAR0.out) HAR0.out.one ?_))
      generalize hWs : World.setRow _ w2.heap.size _ = w3
      have hst := fresh15 w2 ZS AR0 38 w3 hWs.symm
      have HR3 := Lib.hid hst.1
      have HB3 := Lib.hid (bt15 HB2.out hst.2)
      obtain ⟨d0, d1, d2, d3⟩ := set_atR hst.1 HAR0.out
      have HP3 := Lib.hid d3
      have HXk := Lib.hid HB2.out.size
      clear hWs hst d3 HF
      generalize w2.heap.size = X at *
      have HXl := Lib.hid (lt_of_block HR3.out)
      go_wp2_with fail
      refine (HNW.out _ HB3.out).mono ?_
      rintro e w4 ⟨rfl, hb4⟩
      have HB4 := Lib.hid (bt15 HB3.out hb4)
      have HR4 := Lib.hid ((hb4.block X HXl.out).trans HR3.out)
      clear hb4 HNW d0 d1 d2 HP3 HR3 HB3
      obtain ⟨a, c, rfl, hc, hat⟩ := HLS.out.below HB4.out
      have HA := Lib.hid hat
      clear hat hc HLS
      rw [HN.out]
      go_wp2_with fail
      go_loopw [11, 13, 31] (fun v11 _ v31 wr => ∃ i : Nat, i ≤ k ∧ v31 = .int .i64 (i : Int) ∧ OWS wr w4.heap.size v11 (((l.take i).filter (fun x => decide (x.nm ≠ o))).map (renS o n)) ∧ Below w4.heap.size w4 wr) (fun _ _ v _ => k - (intOf v).toNat)
      case atStart => exact ⟨0, Nat.zero_le _, rfl, OWS.nil _ _, Below.refl _ _⟩
      case round =>
        obtain ⟨i, hi, rfl, ho, hb⟩ := hrel
        have HB := Lib.hid hb
        have HO := Lib.hid ho
        clear hb ho
        by_cases hlt : i < k
        · obtain ⟨q, hq⟩ : ∃ q, l[i]? = some q := ⟨_, List.getElem?_eq_getElem (by rw [HN.out]; exact hlt)⟩
          obtain ⟨b, off, rfl, hrg⟩ := HA.out i q hq
          have HRG := Lib.hid (range_below hrg HB.out)
          have hix := index_set b off k c i hlt
          obtain ⟨AR, har⟩ := setR q
          have HAR := Lib.hid har
          have HQ := Lib.hid hq
          have HLT := Lib.hid hlt
          have iI : (i : Int) < (k : Int) := by omega
          have i0 : (0 : Int) ≤ (i : Int) := by omega
          clear hlt hrg hq hi
          go_upto_region 11 with (first
            | (with_reducible refine ld_set (op := ⟨some 34, _, _, _, _, _⟩) rfl _ rfl b (off + i * 37) rfl q _ HAR.out.eq HRG.out ?_)
            | (with_reducible refine wpList_store_row (o := ⟨none, .store _ (.tmp 13) _, _, _, _, _⟩) rfl 38 _ _ rfl wr.heap.size AR rfl rfl 38 ZS (heap_alloc_new wr _) HAR.out.sz (HZ.out.same HAR.out) HAR.out.one ?_))
          generalize hWs : World.setRow _ wr.heap.size _ = wk
          have hst := fresh15 wr ZS AR 38 wk hWs.symm
          have HRk := Lib.hid hst.1
          have HBk := Lib.hid (bt15 HB.out hst.2)
          obtain ⟨d0, d1, d2, d3⟩ := set_atR hst.1 har
          have HXk := Lib.hid (show w4.heap.size ≤ wr.heap.size from HB.out.size)
          have HOk := Lib.hid (HO.out.below hst.2)
          have HYG := Lib.hid (fun g hg => (World.ownsRow.lt HO.out g hg).2)
          clear hWs hst hix har HRG
          generalize wr.heap.size = Y at *
          have hs1 := str_beq q.fr o
          have hs2 := str_beq q.nm o
          have HFN := Lib.hid (filter_next (fun x => decide (x.nm ≠ o)) HQ.out)
          have HFL := Lib.hid (show (((l.take i).filter (fun x => decide (x.nm ≠ o))).map (renS o n)).length ≤ l.length by rw [List.length_map]; exact filter_len (fun x => decide (x.nm ≠ o)) l i)
          by_cases hm : q.nm = o
          · rw [decide_eq_true hm] at hs2
            have HO2 := Lib.hid (show OWS wk w4.heap.size _ (((l.take (i + 1)).filter (fun x => decide (x.nm ≠ o))).map (renS o n)) by rw [HFN.out, if_neg (by simp [hm])]; exact HOk.out)
            clear hm HFN
            go_wp2_with fail
            go_roundw
            case rel => exact ⟨i + 1, by have := HLT.out; omega, by go_num, HO2.out, HBk.out⟩
            case measure => simp [intOf]; have := HLT.out; omega
          · rw [decide_eq_false hm] at hs2
            have HFT := Lib.hid (HFN.out.trans (if_pos (by simp [hm])))
            clear hm HFN
            by_cases hf : q.fr = o
            · rw [decide_eq_true hf] at hs1
              have hrk := HRk.out
              have hfz := frozen_of_row wk Y 1 _ _ hrk
              have hY1 : w4.heap.size ≤ Y := HXk.out
              have hAB := setR_fr HAR.out n
              have HAB := Lib.hid hAB
              have HRS := Lib.hid (show renS o n q = ⟨q.nm, n, q.sn, q.rt⟩ by unfold renS; rw [if_pos hf])
              have hr7 : (wk.setCell ⟨Y, 1, none⟩ (.string n)).heap[Y]? = some (.cells (AR.setIfInBounds 1 (.string n)) 38 (0, 0)) := heap_setCell_same wk Y 1 AR _ _ hrk
              have hb7 : Below w4.heap.size w4 (wk.setCell ⟨Y, 1, none⟩ (.string n)) := HBk.out.setCell (p := ⟨Y, 1, none⟩) hY1 _
              have ho7 : OWS (wk.setCell ⟨Y, 1, none⟩ (.string n)) w4.heap.size _ (((l.take i).filter (fun x => decide (x.nm ≠ o))).map (renS o n)) := HOk.out.move (fun g hg => heap_setCell_other wk _ g _ (by have := HYG.out g hg; show g ≠ Y; omega))
              have HO7 := Lib.hid ho7
              have HB7 := Lib.hid hb7
              have HR7 := Lib.hid hr7
              clear hf hrk hAB hr7 hb7 ho7 hY1
              obtain ⟨BR, hBR⟩ : ∃ z, AR.setIfInBounds 1 (.string n) = z := ⟨_, rfl⟩
              rw [hBR] at HR7 HAB
              clear hBR
              go_upto_region 14 with fail
              generalize wk.setCell ⟨Y, 1, none⟩ (.string n) = w7 at *
              obtain ⟨v', w9, hru, ho9, hb9⟩ := ows_one HO7.out HB7.out.size HAB.out (by have := HFL.out; have := HN.out; have := HK.out; omega) 22
              have HRU := Lib.hid hru
              have HO9 := Lib.hid ho9
              have HB9 := Lib.hid (hb9 _ rfl HB7.out)
              have HLI := Lib.hid (show (Instr.buildSlice 22 1 #[(0, .agg BR)]).run Try.prog w7 = .ok (.slice (some ⟨w7.heap.size, 0, none⟩) 1 1) (World.alloc w7 (.cells BR 38)) from HAB.out.eq ▸ lit_set _ w7)
              clear hru ho9 hb9
              have HO2 := Lib.hid (show OWS w9 w4.heap.size v' (((l.take (i + 1)).filter (fun x => decide (x.nm ≠ o))).map (renS o n)) by rw [HFT.out, List.map_append, List.map_singleton, HRS.out]; exact HO9.out)
              go_wp2_with (first
                | (with_reducible refine wpList_load_row (o := ⟨some 46, _, _, _, _, _⟩) rfl 38 _ rfl Y rfl 38 BR (0, 0) _ HR7.out Try.underlying38 rfl HAB.out.sz ?_)
                | (refine wpList_lit_run (o := ⟨some 47, _, _, _, _, _⟩) rfl _ _ _ rfl #[(0, .agg BR)] (by simp [Act.eval, Act.put]) _ _ HLI.out ?_)
                | (at_builtin; refine wpList_append_run (o := ⟨some 48, _, _, _, _, _⟩) rfl _ _ _ _ rfl _ _ _ _ rfl rfl HRU.out ?_))
              go_roundw
              case rel => exact ⟨i + 1, by have := HLT.out; omega, by go_num, HO2.out, HB9.out⟩
              case measure => simp [intOf]; have := HLT.out; omega
            · rw [decide_eq_false hf] at hs1
              have HRS := Lib.hid (show renS o n q = q by unfold renS; rw [if_neg hf])
              clear hf
              obtain ⟨v', w9, hru, ho9, hb9⟩ := ows_one HOk.out HBk.out.size HAR.out (by have := HFL.out; have := HN.out; have := HK.out; omega) 22
              have HRU := Lib.hid hru
              have HO9 := Lib.hid ho9
              have HB9 := Lib.hid (hb9 _ rfl HBk.out)
              have HLI := Lib.hid (show (Instr.buildSlice 22 1 #[(0, .agg AR)]).run Try.prog wk = .ok (.slice (some ⟨wk.heap.size, 0, none⟩) 1 1) (World.alloc wk (.cells AR 38)) from HAR.out.eq ▸ lit_set _ wk)
              clear hru ho9 hb9
              have HO2 := Lib.hid (show OWS w9 w4.heap.size v' (((l.take (i + 1)).filter (fun x => decide (x.nm ≠ o))).map (renS o n)) by rw [HFT.out, List.map_append, List.map_singleton, HRS.out]; exact HO9.out)
              go_wp2_with (first
                | (with_reducible refine wpList_load_row (o := ⟨some 46, _, _, _, _, _⟩) rfl 38 _ rfl Y rfl 38 AR (0, 0) _ HRk.out Try.underlying38 rfl HAR.out.sz ?_)
                | (refine wpList_lit_run (o := ⟨some 47, _, _, _, _, _⟩) rfl _ _ _ rfl #[(0, .agg AR)] (by simp [Act.eval, Act.put]) _ _ HLI.out ?_)
                | (at_builtin; refine wpList_append_run (o := ⟨some 48, _, _, _, _, _⟩) rfl _ _ _ _ rfl _ _ _ _ rfl rfl HRU.out ?_))
              go_roundw
              case rel => exact ⟨i + 1, by have := HLT.out; omega, by go_num, HO2.out, HB9.out⟩
              case measure => simp [intOf]; have := HLT.out; omega
        · obtain rfl : k = i := by omega
          have HO2 := Lib.hid (show OWS wr w4.heap.size _ ((lessL l o).map (renS o n)) by have h := HO.out; rw [List.take_of_length_le (by rw [HN.out]; exact Nat.le_refl _)] at h; exact h)
          have HR := Lib.hid ((HB.out.block X (lt_of_block HR4.out)).trans HR4.out)
          have hAB := setR_nm HAR0.out n
          have HAB := Lib.hid hAB
          have hrx := frozen_of_row wr X 0 _ _ HR.out
          have hr7 : (wr.setCell ⟨X, 0, none⟩ (.string n)).heap[X]? = some (.cells (AR0.setIfInBounds 0 (.string n)) 38 (0, 0)) := heap_setCell_same wr X 0 AR0 _ _ HR.out
          obtain ⟨c0, _, _, _⟩ := set_atR HR.out HAR0.out
          have ho7 : OWS (wr.setCell ⟨X, 0, none⟩ (.string n)) w4.heap.size _ ((lessL l o).map (renS o n)) := HO2.out.move (fun g hg => heap_setCell_other wr _ g _ (by have := (World.ownsRow.lt HO2.out g hg).1; have := lt_of_block HR4.out; show g ≠ X; omega))
          have hb7 : Below w.heap.size w (wr.setCell ⟨X, 0, none⟩ (.string n)) := (bt15 HB4.out HB.out).setCell (p := ⟨X, 0, none⟩) HXk.out _
          have HO7 := Lib.hid ho7
          have HB7 := Lib.hid hb7
          have HR7 := Lib.hid hr7
          have HLL := Lib.hid (show ((lessL l o).map (renS o n)).length ≤ 1000 by rw [List.length_map]; have h := List.length_filter_le (fun x => decide (x.nm ≠ o)) l; unfold lessL; have := HN.out; have := HK.out; omega)
          have HWI := Lib.hid (fun W v (hL : LS W v ((lessL l o).map (renS o n))) => hAB.eq ▸ rwith15 v ((lessL l o).map (renS o n)) ⟨n, s.fr, s.sn, s.rt⟩ W hL HLL.out)
          clear hi hlt HO HB hAB hr7 ho7 hb7
          obtain ⟨BR, hBR⟩ : ∃ z, AR0.setIfInBounds 0 (.string n) = z := ⟨_, rfl⟩
          rw [hBR] at HR7 HAB HWI
          clear hBR
          go_upto_region 17 with fail
          generalize wr.setCell ⟨X, 0, none⟩ (.string n) = w7 at *
          go_wp2_with (first
            | (with_reducible refine wpList_load_row (o := ⟨some 53, _, _, _, _, _⟩) rfl 38 _ rfl X rfl 38 BR (0, 0) _ HR7.out Try.underlying38 rfl HAB.out.sz ?_))
          refine (HWI.out _ _ HO7.out.ls).mono ?_
          rintro e w8 ⟨v8, rfl, ho8, hb8⟩
          have HO8 := Lib.hid (ho8.up HB7.out.size)
          have HB8 := Lib.hid (bt15 HB7.out hb8)
          clear ho8 hb8
          go_wp2_with fail
          go_ret2
          exact ⟨_, by rw [HE.out]; rfl, by rw [HE.out]; exact HO8.out, HB8.out⟩
    · have HE := Lib.hid (show renD l o n = (freshE l n, []) by unfold renD; rw [if_pos hf, if_neg hg])
      clear har0 h hs ho hf hs0 hm hn hv
      generalize freshE l n = E at *
      have h1 : (E == 0) = false := by simpa using hg
      have h2 : decide (E = 0) = false := by simpa using hg
      have h3 : (E != 0) = true := by simpa using hg
      go_enter Try.func33, Try.ntmps33
      go_wp2_with fail
      refine HF.out.mono ?_
      rintro e w2 ⟨rfl, hb2⟩
      have HB2 := Lib.hid hb2
      clear hb2
      go_upto_region 2 with (first
        | (with_reducible refine wpList_store_row (o := ⟨none, .store _ (.tmp 8) _, _, _, _, _⟩) rfl 38 _ _ rfl w2.heap.size AR0 rfl rfl 38 ZS (heap_alloc_new w2 _) HAR0.out.sz (HZ.out.same HAR0.out) HAR0.out.one ?_))
      generalize hWs : World.setRow _ w2.heap.size _ = w3
      have hst := fresh15 w2 ZS AR0 38 w3 hWs.symm
      have HR3 := Lib.hid hst.1
      have HB3 := Lib.hid (bt15 HB2.out hst.2)
      obtain ⟨d0, d1, d2, d3⟩ := set_atR hst.1 HAR0.out
      have HP3 := Lib.hid d3
      have HXk := Lib.hid HB2.out.size
      clear hWs hst d3 HF
      generalize w2.heap.size = X at *
      go_wp2_with fail
      refine (HNW.out _ HB3.out).mono ?_
      rintro e w4 ⟨rfl, hb4⟩
      have HB4 := Lib.hid (bt15 HB3.out hb4)
      clear hb4
      go_wp2_with fail
      go_ret2
      exact ⟨_, by rw [HE.out]; rfl, by rw [HE.out]; exact OWS.nil _ _, HB4.out⟩
  · have HE := Lib.hid (show renD l o n = ((findD l o).2, []) by unfold renD; rw [if_neg hf])
    obtain ⟨AR, har⟩ := setR (findD l o).1
    rw [har.eq] at HF
    have HAR := Lib.hid har
    clear har h hs ho
    generalize (findD l o).2 = E at *
    have h1 : (E == 0) = false := by simpa using hf
    have h2 : decide (E = 0) = false := by simpa using hf
    have h3 : (E != 0) = true := by simpa using hf
    go_enter Try.func33, Try.ntmps33
    go_wp2_with fail
    refine HF.out.mono ?_
    rintro e w2 ⟨rfl, hb2⟩
    have HB2 := Lib.hid hb2
    clear hb2
    go_wp2_with (first
      | (with_reducible refine wpList_store_row (o := ⟨none, .store _ (.tmp 8) _, _, _, _, _⟩) rfl 38 _ _ rfl w2.heap.size AR rfl rfl 38 ZS (heap_alloc_new w2 _) HAR.out.sz (HZ.out.same HAR.out) HAR.out.one ?_))
    go_ret2
    exact ⟨_, by rw [HE.out]; rfl, by rw [HE.out]; exact OWS.nil _ _, ybelow_row (HB2.out.alloc HB2.out.size _) HB2.out.size _⟩
set_option maxRecDepth 100000 in
set_option maxHeartbeats 3200000 in
theorem rdo15 (v : Value) (l : List SetV) (k : Int) (a b : ByteArray) (w : World) (h : LS w v l) (hs : l.length < 1000) (ho : ∀ s ∈ l, SetOk s) (hza : a.size ≤ 140737488351232) (hzb : b.size ≤ 140737488351232) :
    Calls Try.prog 13 #[v, .agg #[.int .i64 k, .string a, .string b]] w fun e w' => DoPost w (doD l k a b) e w' := by
  have hb0 := ba15 w (.cells #[.int .i64 k, .string a, .string b] 27)
  have hl := h.below hb0
  have HB := Lib.hid hb0
  have hnw := new15 w (.cells #[.int .i64 k, .string a, .string b] 27)
  have c0 := cell_of_row _ w.heap.size 0 _ _ _ hnw
  have c1 := cell_of_row _ w.heap.size 1 _ _ _ hnw
  have c2 := cell_of_row _ w.heap.size 2 _ _ _ hnw
  have Hsnap := Lib.hid (fun W (q : Below w.heap.size w W) => rsnap15 v l a b W (h.below q) hs ho hzb)
  have Hclone := Lib.hid (fun W (q : Below w.heap.size w W) => rclone15 v l a b W (h.below q) hs ho hzb)
  have Hdest := Lib.hid (fun W (q : Below w.heap.size w W) => rdest15 v l a W (h.below q) hs ho)
  have Hren := Lib.hid (fun W (q : Below w.heap.size w W) => rren15 v l a b W (h.below q) hs ho hzb)
  have Hcreate := Lib.hid (fun W (q : Below w.heap.size w W) => rcreate15 v l a W (h.below q) hs ho hza)
  clear hb0 hl hnw h ho hs
  by_cases h1 : k = 1
  · subst h1
    have HE := Lib.hid (show doD l 1 a b = snapD l a b by unfold doD; rw [if_pos rfl])
    go_enter Try.func13, Try.ntmps13
    go_wp2_with fail
    refine (Hsnap.out _ HB.out).mono ?_
    intro e w2 hp
    have hp := dopost_up HB.out hp
    rw [← HE.out] at hp
    obtain ⟨v', rfl, ho2, hb2⟩ := hp
    have HO := Lib.hid ho2
    have HB2 := Lib.hid hb2
    clear ho2 hb2
    go_wp2_with fail
    go_ret2
    exact ⟨_, rfl, HO.out, HB2.out⟩
  · by_cases h2 : k = 2
    · subst h2
      have HE := Lib.hid (show doD l 2 a b = cloneD l a b by unfold doD; rw [if_neg (by decide)]; rw [if_pos rfl])
      go_enter Try.func13, Try.ntmps13
      go_wp2_with fail
      refine (Hclone.out _ HB.out).mono ?_
      intro e w2 hp
      have hp := dopost_up HB.out hp
      rw [← HE.out] at hp
      obtain ⟨v', rfl, ho2, hb2⟩ := hp
      have HO := Lib.hid ho2
      have HB2 := Lib.hid hb2
      clear ho2 hb2
      go_wp2_with fail
      go_ret2
      exact ⟨_, rfl, HO.out, HB2.out⟩
    · by_cases h3 : k = 3
      · subst h3
        have HE := Lib.hid (show doD l 3 a b = destD l a by unfold doD; rw [if_neg (by decide)]; rw [if_neg (by decide)]; rw [if_pos rfl])
        go_enter Try.func13, Try.ntmps13
        go_wp2_with fail
        refine (Hdest.out _ HB.out).mono ?_
        intro e w2 hp
        have hp := dopost_up HB.out hp
        rw [← HE.out] at hp
        obtain ⟨v', rfl, ho2, hb2⟩ := hp
        have HO := Lib.hid ho2
        have HB2 := Lib.hid hb2
        clear ho2 hb2
        go_wp2_with fail
        go_ret2
        exact ⟨_, rfl, HO.out, HB2.out⟩
      · by_cases h4 : k = 4
        · subst h4
          have HE := Lib.hid (show doD l 4 a b = renD l a b by unfold doD; rw [if_neg (by decide)]; rw [if_neg (by decide)]; rw [if_neg (by decide)]; rw [if_pos rfl])
          go_enter Try.func13, Try.ntmps13
          go_wp2_with fail
          refine (Hren.out _ HB.out).mono ?_
          intro e w2 hp
          have hp := dopost_up HB.out hp
          rw [← HE.out] at hp
          obtain ⟨v', rfl, ho2, hb2⟩ := hp
          have HO := Lib.hid ho2
          have HB2 := Lib.hid hb2
          clear ho2 hb2
          go_wp2_with fail
          go_ret2
          exact ⟨_, rfl, HO.out, HB2.out⟩
        · have e1 : (k == 1) = false := by simpa using h1
          have e2 : (k == 2) = false := by simpa using h2
          have e3 : (k == 3) = false := by simpa using h3
          have e4 : (k == 4) = false := by simpa using h4
          have HE := Lib.hid (show doD l k a b = createD l a by unfold doD; rw [if_neg h1]; rw [if_neg h2]; rw [if_neg h3]; rw [if_neg h4]; skip)
          go_enter Try.func13, Try.ntmps13
          go_wp2_with fail
          refine (Hcreate.out _ HB.out).mono ?_
          intro e w2 hp
          have hp := dopost_up HB.out hp
          rw [← HE.out] at hp
          obtain ⟨v', rfl, ho2, hb2⟩ := hp
          have HO := Lib.hid ho2
          have HB2 := Lib.hid hb2
          clear ho2 hb2
          go_wp2_with fail
          go_ret2
          exact ⟨_, rfl, HO.out, HB2.out⟩
end Go.Proofs.Ytkafabcklohlmaa
