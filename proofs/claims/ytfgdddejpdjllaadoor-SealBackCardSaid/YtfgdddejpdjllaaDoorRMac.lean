/-
  The reference's codes: the two hashes of a message.
-/
import Derived.Test.YtfgdddejpdjllaaDoorRsh0
import Derived.Test.YtfgdddejpdjllaaDoorMac0
import Derived.Test.YtfgdddejpdjllaaDoorZeros
import Derived.Deep.DeepCutAuto
namespace Go.Proofs.YtfgdddejpdjllaaDoor
set_option maxRecDepth 4000
open Go.RowKit

set_option maxRecDepth 100000 in
set_option maxHeartbeats 3200000 in
theorem rmacwith_any (key m : List Int) (v u : Value) (g1 c1 g2 c2 : Nat) (w : World) (hM : Mad w g1 c1 g2 c2) (hv : BS w v key) (hr : Room v) (hu : BS w u m) (hn : key.length ≤ 900000) (hm : m.length ≤ 900000) :
    Calls Tryd.prog 62 #[.agg #[.slice (some ⟨g1, 0, none⟩) 8 c1, .slice (some ⟨g2, 0, none⟩) 64 c2], v, u] w fun e w' => e = .returned (.agg (u8s (macS key m))) ∧ Below w.heap.size w w' := by
  obtain ⟨au, cu, rfl, hmy, _, _⟩ := id hu
  have HU := Lib.hid hu
  have HMY := Lib.hid hmy
  have HV := Lib.hid (And.intro hv hr)
  have HM := Lib.hid hM
  have HN := Lib.hid (And.intro hn hm)
  have HKY := Lib.hid (keyB_byt key hv.byt)
  have HKL := Lib.hid (keyB_length key)
  have SC := Lib.hid (show (Tryd.prog.info? 104).map (·.size) = some (#[Value.slice (some ⟨g1, 0, none⟩) 8 c1, .slice (some ⟨g2, 0, none⟩) 64 c2] : Array Value).size by kernel_rfl)
  have mI : (m.length : Int) ≤ 900000 := by omega
  clear hu hmy hv hr hM hn hm
  go_enter Tryd.func62, Tryd.ntmps62
  go_upto_region 1 with (fail)
  have h1 := heap_alloc2_old w (.cells #[Value.slice (some ⟨g1, 0, none⟩) 8 c1, .slice (some ⟨g2, 0, none⟩) 64 c2] 104) (.cells (u8s (List.replicate 32 0)) 26)
  have h2 := heap_alloc2_new w (.cells #[Value.slice (some ⟨g1, 0, none⟩) 8 c1, .slice (some ⟨g2, 0, none⟩) 64 c2] 104) (.cells (u8s (List.replicate 32 0)) 26)
  have hb : Below w.heap.size w ((w.alloc (.cells #[Value.slice (some ⟨g1, 0, none⟩) 8 c1, .slice (some ⟨g2, 0, none⟩) 64 c2] 104)).alloc (.cells (u8s (List.replicate 32 0)) 26)) := ((Below.refl w.heap.size w).alloc (Nat.le_refl _) _).alloc (by simp) _
  have hz : ((w.alloc (.cells #[Value.slice (some ⟨g1, 0, none⟩) 8 c1, .slice (some ⟨g2, 0, none⟩) 64 c2] 104)).alloc (.cells (u8s (List.replicate 32 0)) 26)).heap.size = w.heap.size + 2 := by simp
  refine (show ∀ W1 : World, W1 = ((w.alloc (.cells #[Value.slice (some ⟨g1, 0, none⟩) 8 c1, .slice (some ⟨g2, 0, none⟩) 64 c2] 104)).alloc (.cells (u8s (List.replicate 32 0)) 26)) → _ from ?_) _ rfl
  intro W1 eW
  rw [← eW] at h1 h2 hb hz
  have HC1 := Lib.hid h1
  have HR1 := Lib.hid h2
  have HB1 := Lib.hid hb
  have HZ1 := Lib.hid hz
  have HPAD := Lib.hid (rpadded_any key v g1 c1 g2 c2 W1 (HM.out.kept hb) (HV.out.1.kept hb) HV.out.2 (by have := HN.out.1; omega))
  clear eW h1 h2 hb hz
  obtain ⟨C, hC⟩ : ∃ C, C = w.heap.size := ⟨_, rfl⟩
  rw [← hC] at HC1 HR1 HZ1 ⊢
  have HCE := Lib.hid hC
  clear hC
  go_wp2_with (first
    | (with_reducible refine wpList_load_row (o := ⟨some 9, _, _, _, _, _⟩) rfl 104 _ rfl C rfl 104 #[Value.slice (some ⟨g1, 0, none⟩) 8 c1, .slice (some ⟨g2, 0, none⟩) 64 c2] (0, 0) _ HC1.out Tryd.underlying104 rfl SC.out ?_))
  refine HPAD.out.mono ?_
  rintro e w2 ⟨⟨g, rfl, hg⟩, hb2⟩
  have HG2 := Lib.hid hg
  have HC2 := Lib.hid ((hb2.block C (by have := HZ1.out; omega)).trans HC1.out)
  have HR2 := Lib.hid ((hb2.block (C + 1) (by have := HZ1.out; omega)).trans HR1.out)
  have HB2 := Lib.hid (HB1.out.trans (hb2.mono HB1.out.size))
  have HM2 := Lib.hid (HM.out.kept HB2.out)
  have HU2 := Lib.hid (HU.out.kept HB2.out)
  have HZ2 := Lib.hid (show C + 1 < w2.heap.size by have := HZ1.out; have := hb2.size; omega)
  clear hg hb2
  generalize hkb : keyB key = kb at *
  have HKB := Lib.hid hkb
  have HMACS := Lib.hid (show macS key m = hashS (padS kb 92 ++ hashS (padS kb 54 ++ m)) by rw [← hkb]; rfl)
  clear hkb
  have TURN := Lib.hid (fun (p : Int) (W : World) (hb : Below w2.heap.size w2 W) => rturned_any kb p g 64 W HKL.out (fun i hi => (cell_of_row W g i _ _ _ ((hb.block g (lt_of_block HG2.out)).trans HG2.out)).trans (u8s_at kb i (by rw [HKL.out]; exact hi))))
  have hiC : (Tryd.prog.info? 104).map (·.size) = some (#[Value.slice (some ⟨g1, 0, none⟩) 8 c1, .slice (some ⟨g2, 0, none⟩) 64 c2] : Array Value).toList.length := by kernel_rfl
  have huC := Tryd.underlying104
  have HGC := Lib.hid (show ∀ W : World, Below w2.heap.size w2 W → W.rangeAt C 0 (#[Value.slice (some ⟨g1, 0, none⟩) 8 c1, .slice (some ⟨g2, 0, none⟩) 64 c2] : Array Value).toList from fun W hb j v hv => by
    rw [Nat.zero_add, cell_of_row _ _ _ _ _ _ ((hb.block C (lt_of_block HC2.out)).trans HC2.out), ← Array.getElem?_toList]
    exact hv)
  go_upto_region 2 with (fail)
  go_cut [8] (fun v8 wr => ∃ X, v8 = .pointer (some ⟨X, 0, none⟩) ∧ ArrB wr X 26 (hashS (padS kb 54 ++ m)) ∧ Below w2.heap.size w2 wr)
  case first =>
    rename_i J0 K0 hJ0 hK0
    have HBD := Lib.hid (Below.refl w2.heap.size w2).drew
    refine wp_region_noPanic ?_
    refine wp_region_held_drew (S := fun w' => w'.rangeAt C 0 (#[Value.slice (some ⟨g1, 0, none⟩) 8 c1, .slice (some ⟨g2, 0, none⟩) 64 c2] : Array Value).toList) (by kernel_rfl) (HGC.out _ HBD.out) (fun hHeld => ?_)
    refine wpAnyH_take (i := 0) (oi := ⟨some 12, _, _, _, _, _⟩) rfl (by kernel_rfl) (by decide +kernel) (by decide +kernel) (fun _ _ _ h => h) (yieldsIf_load_mid (by rfl) _ _ rfl C 0 rfl (#[Value.slice (some ⟨g1, 0, none⟩) 8 c1, .slice (some ⟨g2, 0, none⟩) 64 c2] : Array Value).toList _ (fun w' h => h) huC rfl hiC) (by assumption) ?_
    try simp only [Act.put, List.setIfInBounds_toArray, List.set_cons_zero, List.set_cons_succ]
    refine wpAnyH_take (i := 1) (oi := ⟨some 13, _, _, _, _, _⟩) (v := ?_) rfl (by kernel_rfl) (by decide +kernel) (by decide +kernel) (fun _ _ _ h => h) (Or.inl ⟨by rfl, ?_⟩) (by assumption) ?_
    rotate_left 1
    · (intro w' hSw; go_simp; try with_reducible rfl)
    try simp only [Act.put, List.setIfInBounds_toArray, List.set_cons_zero, List.set_cons_succ]
    refine wpAnyH_take (i := 3) (oi := ⟨some 15, _, _, _, _, _⟩) (v := ?_) rfl (by kernel_rfl) (by decide +kernel) (by decide +kernel) (fun _ _ _ h => h) (Or.inl ⟨by rfl, ?_⟩) (by assumption) ?_
    rotate_left 1
    · (intro w' hSw; go_simp; try with_reducible rfl)
    try simp only [Act.put, List.setIfInBounds_toArray, List.set_cons_zero, List.set_cons_succ]
    refine wpAnyH_ready (rs := [2, 6]) (by decide +kernel) (by simp) ?_
    refine AllReadyH.cons rfl (fun K hK => ?_) (AllReadyH.cons rfl (fun K hK => ?_) AllReadyH.nil)
    · go_simp
      go_at_call 81
      refine (TURN.out 54 _ HBD.out).mono ?_
      rintro e wt1 ⟨rfl, ho1, hb1⟩
      have HB1 := Lib.hid (HBD.out.trans (hb1.mono HBD.out.size))
      have HOA1 := Lib.hid (own_mono ho1 HBD.out.size)
      clear ho1 hb1
      go_wp2_with fail
      refine hK.out _ _ (HGC.out _ HB1.out) (fun hHeld => ?_)
      clear hK K
      try simp only [Act.put, List.setIfInBounds_toArray, List.set_cons_zero, List.set_cons_succ]
      refine wpAnyH_ready (rs := [4, 6]) (by decide +kernel) (by simp) ?_
      refine AllReadyH.cons rfl (fun K hK => ?_) (AllReadyH.cons rfl (fun K hK => ?_) AllReadyH.nil)
      · obtain ⟨v2, wa2, hr2, ho2, hg2⟩ := run_append_BS wt1 w2.heap.size 64 (.slice (some ⟨w2.drew.heap.size, 0, none⟩) 64 64) (.slice au m.length cu) _ (m) HOA1.out (HU2.out.kept HB1.out) (by have := HN.out.2; omega) HB1.out.size
        rw [← List.map_append] at ho2
        obtain ⟨aa2, cc2, rfl, _⟩ := own_shape ho2
        have HB2 := Lib.hid (HB1.out.grown hg2 HB1.out.size (fun k hk => (HOA1.out.lt k hk).1))
        have HBS2 := Lib.hid (BS.of_own ho2 (by rw [List.length_append, padS_length, HKL.out]) (byt_app (padS_byt kb 54 HKY.out (by omega) (by omega)) HMY.out))
        have HT2 := Lib.hid (rwith_any (padS kb 54 ++ m) _ g1 c1 g2 c2 wa2 (HM2.out.kept HB2.out) HBS2.out (by rw [List.length_append, padS_length, HKL.out]; omega))
        rw [if_pos (by kernel_rfl)]
        refine wp_append_run (o := ⟨some 16, _, _, _, _, _⟩) (.tmp 14) (.tmp 15) 22 22 rfl _ _ _ _ rfl rfl hr2 ?_
        clear hr2 ho2 hg2
        refine hK.out _ _ (HGC.out _ HB2.out) (fun hHeld => ?_)
        clear hK K
        try simp only [Act.put, List.setIfInBounds_toArray, List.set_cons_zero, List.set_cons_succ]
        refine wpAnyH_ready (rs := [5, 6]) (by decide +kernel) (by simp) ?_
        refine AllReadyH.cons rfl (fun K hK => ?_) (AllReadyH.cons rfl (fun K hK => ?_) AllReadyH.nil)
        · go_simp
          go_at_call 50
          refine HT2.out.mono ?_
          rintro e ww3 ⟨rfl, hb3⟩
          have HB3 := Lib.hid (HB2.out.trans (hb3.mono HB2.out.size))
          clear hb3
          go_wp2_with fail
          refine hK.out _ _ (HGC.out _ HB3.out) (fun hHeld => ?_)
          clear hK K
          try simp only [Act.put, List.setIfInBounds_toArray, List.set_cons_zero, List.set_cons_succ]
          refine wpAnyH_ready (rs := [6]) (by decide +kernel) (by simp) ?_
          refine AllReadyH.cons rfl (fun K hK => ?_) AllReadyH.nil
          go_simp
          have hal4 := HB3.out.alloc HB3.out.size (.cells (u8s (List.replicate 32 0)) 26)
          have hxl4 := heap_alloc_new ww3 (.cells (u8s (List.replicate 32 0)) 26)
          refine hK.out _ _ (HGC.out _ hal4) (fun hHeld => ?_)
          clear hK K
          try simp only [Act.put, List.setIfInBounds_toArray, List.set_cons_zero, List.set_cons_succ]
          have hst4 := (Below.refl ww3.heap.size ww3).alloc (Nat.le_refl _) (.cells (u8s (List.replicate 32 0)) 26)
          refine (show ∀ wb4 : World, wb4 = ww3.alloc (.cells (u8s (List.replicate 32 0)) 26) → _ from ?_) _ rfl
          intro wb4 ew4
          rw [← ew4] at hal4 hxl4 hst4
          have HB4 := Lib.hid hal4
          have HX4 := Lib.hid (show ArrB wb4 ww3.heap.size 26 (List.replicate 32 0) from hxl4)
          have HST4 := Lib.hid hst4
          clear ew4 hal4 hxl4 hst4
          have SH := Lib.hid (size_h32 (hashS (padS kb 54 ++ m)) (hashS_length _))
          have SE := Lib.hid (show (u8s (List.replicate 32 0)).size = (u8s (hashS (padS kb 54 ++ m))).size by rw [u8s_size, u8s_size, hashS_length]; rfl)
          refine wpAnyH_ready (rs := [7]) (by decide +kernel) (by simp) ?_
          refine AllReadyH.cons rfl (fun K hK => ?_) AllReadyH.nil
          rw [if_pos (by kernel_rfl)]
          refine wp_store_row (o := ⟨none, _, _, _, _, _⟩) 26 (.tmp 8) (.tmp 17) rfl (ww3.heap.size) (u8s (hashS (padS kb 54 ++ m))) rfl rfl 26 (u8s (List.replicate 32 0)) HX4.out SH.out SE.out (u8s_one _) ?_
          have hbl := below_setRow HB4.out (show w2.heap.size ≤ ww3.heap.size from (HB3.out.size)) (u8s (hashS (padS kb 54 ++ m)))
          refine hK.out _ _ (HGC.out _ hbl) (fun hHeld => ?_)
          clear hK K
          try simp only [Act.put]
          refine wpAnyH_done (by decide +kernel) ?_ _
          refine NoPanic.normal ?_
          show K0 _ _
          refine hK0 _ _ (Met.intro (hJ0 _ _ ?_))
          repeat apply Exists.intro
          exact ⟨⟨_, rfl, setRow_heap _ _ _ _ _ (0, 0) HX4.out, hbl⟩, rfl⟩
        · go_simp
          have hal5 := HB2.out.alloc HB2.out.size (.cells (u8s (List.replicate 32 0)) 26)
          have hxl5 := heap_alloc_new wa2 (.cells (u8s (List.replicate 32 0)) 26)
          refine hK.out _ _ (HGC.out _ hal5) (fun hHeld => ?_)
          clear hK K
          try simp only [Act.put, List.setIfInBounds_toArray, List.set_cons_zero, List.set_cons_succ]
          have hst5 := (Below.refl wa2.heap.size wa2).alloc (Nat.le_refl _) (.cells (u8s (List.replicate 32 0)) 26)
          refine (show ∀ wb5 : World, wb5 = wa2.alloc (.cells (u8s (List.replicate 32 0)) 26) → _ from ?_) _ rfl
          intro wb5 ew5
          rw [← ew5] at hal5 hxl5 hst5
          have HB5 := Lib.hid hal5
          have HX5 := Lib.hid (show ArrB wb5 wa2.heap.size 26 (List.replicate 32 0) from hxl5)
          have HST5 := Lib.hid hst5
          have HTM5 := Lib.hid (rwith_any (padS kb 54 ++ m) _ g1 c1 g2 c2 wb5 (HM2.out.kept HB5.out) ((HBS2.out).kept HST5.out) (by rw [List.length_append, padS_length, HKL.out]; omega))
          clear ew5 hal5 hxl5 hst5
          refine wpAnyH_ready (rs := [5]) (by decide +kernel) (by simp) ?_
          refine AllReadyH.cons rfl (fun K hK => ?_) AllReadyH.nil
          go_simp
          go_at_call 50
          refine (HTM5.out).mono ?_
          rintro e ww6 ⟨rfl, hb6⟩
          have HB6 := Lib.hid (HB5.out.trans (hb6.mono HB5.out.size))
          have HX6 := Lib.hid (HX5.out.below hb6 HX5.out.lt)
          clear hb6
          go_wp2_with fail
          refine hK.out _ _ (HGC.out _ HB6.out) (fun hHeld => ?_)
          clear hK K
          try simp only [Act.put, List.setIfInBounds_toArray, List.set_cons_zero, List.set_cons_succ]
          have SH := Lib.hid (size_h32 (hashS (padS kb 54 ++ m)) (hashS_length _))
          have SE := Lib.hid (show (u8s (List.replicate 32 0)).size = (u8s (hashS (padS kb 54 ++ m))).size by rw [u8s_size, u8s_size, hashS_length]; rfl)
          refine wpAnyH_ready (rs := [7]) (by decide +kernel) (by simp) ?_
          refine AllReadyH.cons rfl (fun K hK => ?_) AllReadyH.nil
          rw [if_pos (by kernel_rfl)]
          refine wp_store_row (o := ⟨none, _, _, _, _, _⟩) 26 (.tmp 8) (.tmp 17) rfl (wa2.heap.size) (u8s (hashS (padS kb 54 ++ m))) rfl rfl 26 (u8s (List.replicate 32 0)) HX6.out SH.out SE.out (u8s_one _) ?_
          have hbl := below_setRow HB6.out (show w2.heap.size ≤ wa2.heap.size from (HB2.out.size)) (u8s (hashS (padS kb 54 ++ m)))
          refine hK.out _ _ (HGC.out _ hbl) (fun hHeld => ?_)
          clear hK K
          try simp only [Act.put]
          refine wpAnyH_done (by decide +kernel) ?_ _
          refine NoPanic.normal ?_
          show K0 _ _
          refine hK0 _ _ (Met.intro (hJ0 _ _ ?_))
          repeat apply Exists.intro
          exact ⟨⟨_, rfl, setRow_heap _ _ _ _ _ (0, 0) HX6.out, hbl⟩, rfl⟩
      · go_simp
        have hal7 := HB1.out.alloc HB1.out.size (.cells (u8s (List.replicate 32 0)) 26)
        have hxl7 := heap_alloc_new wt1 (.cells (u8s (List.replicate 32 0)) 26)
        refine hK.out _ _ (HGC.out _ hal7) (fun hHeld => ?_)
        clear hK K
        try simp only [Act.put, List.setIfInBounds_toArray, List.set_cons_zero, List.set_cons_succ]
        have hst7 := (Below.refl wt1.heap.size wt1).alloc (Nat.le_refl _) (.cells (u8s (List.replicate 32 0)) 26)
        refine (show ∀ wb7 : World, wb7 = wt1.alloc (.cells (u8s (List.replicate 32 0)) 26) → _ from ?_) _ rfl
        intro wb7 ew7
        rw [← ew7] at hal7 hxl7 hst7
        have HB7 := Lib.hid hal7
        have HX7 := Lib.hid (show ArrB wb7 wt1.heap.size 26 (List.replicate 32 0) from hxl7)
        have HST7 := Lib.hid hst7
        have HOA7 := Lib.hid (own_below HOA1.out HST7.out)
        have NE7 := Lib.hid (show wt1.heap.size ≠ w2.drew.heap.size from Nat.ne_of_gt (HOA1.out.lt _ rfl).2)
        clear ew7 hal7 hxl7 hst7
        refine wpAnyH_ready (rs := [4]) (by decide +kernel) (by simp) ?_
        refine AllReadyH.cons rfl (fun K hK => ?_) AllReadyH.nil
        obtain ⟨v8, wa8, hr8, ho8, hg8⟩ := run_append_BS wb7 w2.heap.size 64 (.slice (some ⟨w2.drew.heap.size, 0, none⟩) 64 64) (.slice au m.length cu) _ (m) HOA7.out (HU2.out.kept HB7.out) (by have := HN.out.2; omega) HB7.out.size
        rw [← List.map_append] at ho8
        obtain ⟨aa8, cc8, rfl, _⟩ := own_shape ho8
        have HB8 := Lib.hid (HB7.out.grown hg8 HB7.out.size (fun k hk => (HOA7.out.lt k hk).1))
        have HBS8 := Lib.hid (BS.of_own ho8 (by rw [List.length_append, padS_length, HKL.out]) (byt_app (padS_byt kb 54 HKY.out (by omega) (by omega)) HMY.out))
        have HT8 := Lib.hid (rwith_any (padS kb 54 ++ m) _ g1 c1 g2 c2 wa8 (HM2.out.kept HB8.out) HBS8.out (by rw [List.length_append, padS_length, HKL.out]; omega))
        have HX8 := Lib.hid (HX7.out.grown hg8 (fun e => NE7.out e))
        rw [if_pos (by kernel_rfl)]
        refine wp_append_run (o := ⟨some 16, _, _, _, _, _⟩) (.tmp 14) (.tmp 15) 22 22 rfl _ _ _ _ rfl rfl hr8 ?_
        clear hr8 ho8 hg8
        refine hK.out _ _ (HGC.out _ HB8.out) (fun hHeld => ?_)
        clear hK K
        try simp only [Act.put, List.setIfInBounds_toArray, List.set_cons_zero, List.set_cons_succ]
        refine wpAnyH_ready (rs := [5]) (by decide +kernel) (by simp) ?_
        refine AllReadyH.cons rfl (fun K hK => ?_) AllReadyH.nil
        go_simp
        go_at_call 50
        refine HT8.out.mono ?_
        rintro e ww9 ⟨rfl, hb9⟩
        have HB9 := Lib.hid (HB8.out.trans (hb9.mono HB8.out.size))
        have HX9 := Lib.hid (HX8.out.below hb9 HX8.out.lt)
        clear hb9
        go_wp2_with fail
        refine hK.out _ _ (HGC.out _ HB9.out) (fun hHeld => ?_)
        clear hK K
        try simp only [Act.put, List.setIfInBounds_toArray, List.set_cons_zero, List.set_cons_succ]
        have SH := Lib.hid (size_h32 (hashS (padS kb 54 ++ m)) (hashS_length _))
        have SE := Lib.hid (show (u8s (List.replicate 32 0)).size = (u8s (hashS (padS kb 54 ++ m))).size by rw [u8s_size, u8s_size, hashS_length]; rfl)
        refine wpAnyH_ready (rs := [7]) (by decide +kernel) (by simp) ?_
        refine AllReadyH.cons rfl (fun K hK => ?_) AllReadyH.nil
        rw [if_pos (by kernel_rfl)]
        refine wp_store_row (o := ⟨none, _, _, _, _, _⟩) 26 (.tmp 8) (.tmp 17) rfl (wt1.heap.size) (u8s (hashS (padS kb 54 ++ m))) rfl rfl 26 (u8s (List.replicate 32 0)) HX9.out SH.out SE.out (u8s_one _) ?_
        have hbl := below_setRow HB9.out (show w2.heap.size ≤ wt1.heap.size from (HB1.out.size)) (u8s (hashS (padS kb 54 ++ m)))
        refine hK.out _ _ (HGC.out _ hbl) (fun hHeld => ?_)
        clear hK K
        try simp only [Act.put]
        refine wpAnyH_done (by decide +kernel) ?_ _
        refine NoPanic.normal ?_
        show K0 _ _
        refine hK0 _ _ (Met.intro (hJ0 _ _ ?_))
        repeat apply Exists.intro
        exact ⟨⟨_, rfl, setRow_heap _ _ _ _ _ (0, 0) HX9.out, hbl⟩, rfl⟩
    · go_simp
      have hal10 := HBD.out.alloc HBD.out.size (.cells (u8s (List.replicate 32 0)) 26)
      have hxl10 := heap_alloc_new w2.drew (.cells (u8s (List.replicate 32 0)) 26)
      refine hK.out _ _ (HGC.out _ hal10) (fun hHeld => ?_)
      clear hK K
      try simp only [Act.put, List.setIfInBounds_toArray, List.set_cons_zero, List.set_cons_succ]
      have hst10 := (Below.refl w2.drew.heap.size w2.drew).alloc (Nat.le_refl _) (.cells (u8s (List.replicate 32 0)) 26)
      refine (show ∀ wb10 : World, wb10 = w2.drew.alloc (.cells (u8s (List.replicate 32 0)) 26) → _ from ?_) _ rfl
      intro wb10 ew10
      rw [← ew10] at hal10 hxl10 hst10
      have HB10 := Lib.hid hal10
      have HX10 := Lib.hid (show ArrB wb10 w2.drew.heap.size 26 (List.replicate 32 0) from hxl10)
      have HST10 := Lib.hid hst10
      clear ew10 hal10 hxl10 hst10
      refine wpAnyH_ready (rs := [2]) (by decide +kernel) (by simp) ?_
      refine AllReadyH.cons rfl (fun K hK => ?_) AllReadyH.nil
      go_simp
      go_at_call 81
      refine (TURN.out 54 _ HB10.out).mono ?_
      rintro e wt11 ⟨rfl, ho11, hb11⟩
      have HB11 := Lib.hid (HB10.out.trans (hb11.mono HB10.out.size))
      have HOA11 := Lib.hid (own_mono ho11 HB10.out.size)
      have NE11 := Lib.hid (show w2.drew.heap.size ≠ wb10.heap.size from Nat.ne_of_lt HX10.out.lt)
      have HX11 := Lib.hid (HX10.out.below hb11 HX10.out.lt)
      clear ho11 hb11
      go_wp2_with fail
      refine hK.out _ _ (HGC.out _ HB11.out) (fun hHeld => ?_)
      clear hK K
      try simp only [Act.put, List.setIfInBounds_toArray, List.set_cons_zero, List.set_cons_succ]
      refine wpAnyH_ready (rs := [4]) (by decide +kernel) (by simp) ?_
      refine AllReadyH.cons rfl (fun K hK => ?_) AllReadyH.nil
      obtain ⟨v12, wa12, hr12, ho12, hg12⟩ := run_append_BS wt11 w2.heap.size 64 (.slice (some ⟨wb10.heap.size, 0, none⟩) 64 64) (.slice au m.length cu) _ (m) HOA11.out (HU2.out.kept HB11.out) (by have := HN.out.2; omega) HB11.out.size
      rw [← List.map_append] at ho12
      obtain ⟨aa12, cc12, rfl, _⟩ := own_shape ho12
      have HB12 := Lib.hid (HB11.out.grown hg12 HB11.out.size (fun k hk => (HOA11.out.lt k hk).1))
      have HBS12 := Lib.hid (BS.of_own ho12 (by rw [List.length_append, padS_length, HKL.out]) (byt_app (padS_byt kb 54 HKY.out (by omega) (by omega)) HMY.out))
      have HT12 := Lib.hid (rwith_any (padS kb 54 ++ m) _ g1 c1 g2 c2 wa12 (HM2.out.kept HB12.out) HBS12.out (by rw [List.length_append, padS_length, HKL.out]; omega))
      have HX12 := Lib.hid (HX11.out.grown hg12 (fun e => NE11.out e))
      rw [if_pos (by kernel_rfl)]
      refine wp_append_run (o := ⟨some 16, _, _, _, _, _⟩) (.tmp 14) (.tmp 15) 22 22 rfl _ _ _ _ rfl rfl hr12 ?_
      clear hr12 ho12 hg12
      refine hK.out _ _ (HGC.out _ HB12.out) (fun hHeld => ?_)
      clear hK K
      try simp only [Act.put, List.setIfInBounds_toArray, List.set_cons_zero, List.set_cons_succ]
      refine wpAnyH_ready (rs := [5]) (by decide +kernel) (by simp) ?_
      refine AllReadyH.cons rfl (fun K hK => ?_) AllReadyH.nil
      go_simp
      go_at_call 50
      refine HT12.out.mono ?_
      rintro e ww13 ⟨rfl, hb13⟩
      have HB13 := Lib.hid (HB12.out.trans (hb13.mono HB12.out.size))
      have HX13 := Lib.hid (HX12.out.below hb13 HX12.out.lt)
      clear hb13
      go_wp2_with fail
      refine hK.out _ _ (HGC.out _ HB13.out) (fun hHeld => ?_)
      clear hK K
      try simp only [Act.put, List.setIfInBounds_toArray, List.set_cons_zero, List.set_cons_succ]
      have SH := Lib.hid (size_h32 (hashS (padS kb 54 ++ m)) (hashS_length _))
      have SE := Lib.hid (show (u8s (List.replicate 32 0)).size = (u8s (hashS (padS kb 54 ++ m))).size by rw [u8s_size, u8s_size, hashS_length]; rfl)
      refine wpAnyH_ready (rs := [7]) (by decide +kernel) (by simp) ?_
      refine AllReadyH.cons rfl (fun K hK => ?_) AllReadyH.nil
      rw [if_pos (by kernel_rfl)]
      refine wp_store_row (o := ⟨none, _, _, _, _, _⟩) 26 (.tmp 8) (.tmp 17) rfl (w2.drew.heap.size) (u8s (hashS (padS kb 54 ++ m))) rfl rfl 26 (u8s (List.replicate 32 0)) HX13.out SH.out SE.out (u8s_one _) ?_
      have hbl := below_setRow HB13.out (show w2.heap.size ≤ w2.drew.heap.size from (Nat.le_refl _)) (u8s (hashS (padS kb 54 ++ m)))
      refine hK.out _ _ (HGC.out _ hbl) (fun hHeld => ?_)
      clear hK K
      try simp only [Act.put]
      refine wpAnyH_done (by decide +kernel) ?_ _
      refine NoPanic.normal ?_
      show K0 _ _
      refine hK0 _ _ (Met.intro (hJ0 _ _ ?_))
      repeat apply Exists.intro
      exact ⟨⟨_, rfl, setRow_heap _ _ _ _ _ (0, 0) HX13.out, hbl⟩, rfl⟩
  case rest =>
    obtain ⟨X, hX, hA, hbe⟩ := hcut
    subst hX
    have hL1 := hashS_length (padS kb 54 ++ m)
    have hY1 := hashS_byt (padS kb 54 ++ m)
    have HMS := Lib.hid HMACS.out
    have hms := HMACS.out
    generalize hashS (padS kb 54 ++ m) = H1 at *
    have HMQ := Lib.hid hms
    have HH1 := Lib.hid (And.intro hL1 hY1)
    have hbs := BS.of_arr2 hA hY1
    rw [hL1] at hbs
    have HXB := Lib.hid hbs
    have TURN2 := Lib.hid (fun (p : Int) (W : World) (hb : Below wc.heap.size wc W) => TURN.out p W (hbe.trans (hb.mono hbe.size)))
    have HGC2 := Lib.hid (fun (W : World) (hb : Below wc.heap.size wc W) => HGC.out W (hbe.trans (hb.mono hbe.size)))
    have HMC := Lib.hid (HM2.out.kept hbe)
    have HRC := Lib.hid (show wc.heap[C + 1]? = some (.cells (u8s (List.replicate 32 0)) 26 (0, 0)) from (hbe.block (C + 1) HZ2.out).trans HR2.out)
    have HBC := Lib.hid (HB2.out.trans (hbe.mono HB2.out.size))
    have sa := slice_all32
    clear hms hL1 hY1 hbs hA hbe HMACS HMS
    go_wp2_with fail
    have HBD := Lib.hid (Below.refl wc.heap.size wc).drew
    refine wp_region_noPanic ?_
    refine wp_region_held_drew (S := fun w' => w'.rangeAt C 0 (#[Value.slice (some ⟨g1, 0, none⟩) 8 c1, .slice (some ⟨g2, 0, none⟩) 64 c2] : Array Value).toList) (by kernel_rfl) (HGC2.out _ HBD.out) (fun hHeld => ?_)
    refine wpAnyH_take (i := 0) (oi := ⟨some 18, _, _, _, _, _⟩) rfl (by kernel_rfl) (by decide +kernel) (by decide +kernel) (fun _ _ _ h => h) (yieldsIf_load_mid (by rfl) _ _ rfl C 0 rfl (#[Value.slice (some ⟨g1, 0, none⟩) 8 c1, .slice (some ⟨g2, 0, none⟩) 64 c2] : Array Value).toList _ (fun w' h => h) huC rfl hiC) (by assumption) ?_
    try simp only [Act.put, List.setIfInBounds_toArray, List.set_cons_zero, List.set_cons_succ]
    refine wpAnyH_take (i := 1) (oi := ⟨some 19, _, _, _, _, _⟩) (v := ?_) rfl (by kernel_rfl) (by decide +kernel) (by decide +kernel) (fun _ _ _ h => h) (Or.inl ⟨by rfl, ?_⟩) (by assumption) ?_
    rotate_left 1
    · (intro w' hSw; go_simp; try with_reducible rfl)
    try simp only [Act.put, List.setIfInBounds_toArray, List.set_cons_zero, List.set_cons_succ]
    refine wpAnyH_take (i := 3) (oi := ⟨some 21, _, _, _, _, _⟩) (v := ?_) rfl (by kernel_rfl) (by decide +kernel) (by decide +kernel) (fun _ _ _ h => h) (Or.inl ⟨by rfl, ?_⟩) (by assumption) ?_
    rotate_left 1
    · (intro w' hSw; go_simp; try with_reducible rfl)
    try simp only [Act.put, List.setIfInBounds_toArray, List.set_cons_zero, List.set_cons_succ]
    refine wpAnyH_ready (rs := [2]) (by decide +kernel) (by simp) ?_
    refine AllReadyH.cons rfl (fun K hK => ?_) AllReadyH.nil
    go_simp
    go_at_call 81
    refine (TURN2.out 92 _ HBD.out).mono ?_
    rintro e wt14 ⟨rfl, ho14, hb14⟩
    have HB14 := Lib.hid (HBD.out.trans (hb14.mono HBD.out.size))
    have HOA14 := Lib.hid (own_mono ho14 HBD.out.size)
    clear ho14 hb14
    go_wp2_with fail
    refine hK.out _ _ (HGC2.out _ HB14.out) (fun hHeld => ?_)
    clear hK K
    try simp only [Act.put, List.setIfInBounds_toArray, List.set_cons_zero, List.set_cons_succ]
    refine wpAnyH_ready (rs := [4]) (by decide +kernel) (by simp) ?_
    refine AllReadyH.cons rfl (fun K hK => ?_) AllReadyH.nil
    obtain ⟨v15, wa15, hr15, ho15, hg15⟩ := run_append_BS wt14 wc.heap.size 64 (.slice (some ⟨wc.drew.heap.size, 0, none⟩) 64 64) (.slice (some ⟨X, 0, none⟩) 32 32) _ (H1) HOA14.out (HXB.out.kept HB14.out) (by rw [HH1.out.1]; omega) HB14.out.size
    rw [HH1.out.1, ← List.map_append] at ho15
    obtain ⟨aa15, cc15, rfl, _⟩ := own_shape ho15
    have HB15 := Lib.hid (HB14.out.grown hg15 HB14.out.size (fun k hk => (HOA14.out.lt k hk).1))
    have HBS15 := Lib.hid (BS.of_own ho15 (by rw [List.length_append, padS_length, HKL.out, HH1.out.1]) (byt_app (padS_byt kb 92 HKY.out (by omega) (by omega)) HH1.out.2))
    have HT15 := Lib.hid (rwith_any (padS kb 92 ++ H1) _ g1 c1 g2 c2 wa15 (HMC.out.kept HB15.out) HBS15.out (by rw [List.length_append, padS_length, HKL.out, HH1.out.1]; omega))
    rw [if_pos (by kernel_rfl)]
    refine wp_append_run (o := ⟨some 22, _, _, _, _, _⟩) (.tmp 20) (.tmp 21) 22 22 rfl _ _ _ _ rfl rfl hr15 ?_
    clear hr15 ho15 hg15
    refine hK.out _ _ (HGC2.out _ HB15.out) (fun hHeld => ?_)
    clear hK K
    try simp only [Act.put, List.setIfInBounds_toArray, List.set_cons_zero, List.set_cons_succ]
    refine wpAnyH_ready (rs := [5]) (by decide +kernel) (by simp) ?_
    refine AllReadyH.cons rfl (fun K hK => ?_) AllReadyH.nil
    go_simp
    go_at_call 50
    refine HT15.out.mono ?_
    rintro e ww16 ⟨rfl, hb16⟩
    have HB16 := Lib.hid (HB15.out.trans (hb16.mono HB15.out.size))
    clear hb16
    go_wp2_with fail
    refine hK.out _ _ (HGC2.out _ HB16.out) (fun hHeld => ?_)
    clear hK K
    try simp only [Act.put, List.setIfInBounds_toArray, List.set_cons_zero, List.set_cons_succ]
    have HRZ := Lib.hid ((HB16.out.block (C + 1) (lt_of_block HRC.out)).trans HRC.out)
    have SH := Lib.hid (size_h32 (hashS (padS kb 92 ++ H1)) (hashS_length _))
    have SE := Lib.hid (show (u8s (List.replicate 32 0)).size = (u8s (hashS (padS kb 92 ++ H1))).size by rw [u8s_size, u8s_size, hashS_length]; rfl)
    have HBZ := Lib.hid (HBC.out.trans (HB16.out.mono HBC.out.size))
    have HGZ := Lib.hid (show ∀ cs : Array Value, (ww16.setRow (C + 1) cs).rangeAt C 0 (#[Value.slice (some ⟨g1, 0, none⟩) 8 c1, .slice (some ⟨g2, 0, none⟩) 64 c2] : Array Value).toList from fun cs j v hv => (cell_setRow_other _ _ _ ⟨C, 0 + j, none⟩ (show C ≠ C + 1 by omega)).trans (HGC2.out _ HB16.out j v hv))
    refine wpAnyH_ready (rs := [6]) (by decide +kernel) (by simp) ?_
    refine AllReadyH.cons rfl (fun K hK => ?_) AllReadyH.nil
    rw [if_pos (by kernel_rfl)]
    refine wp_store_row (o := ⟨none, _, _, _, _, _⟩) 26 (.tmp 6) (.tmp 23) rfl (C + 1) (u8s (hashS (padS kb 92 ++ H1))) rfl rfl 26 (u8s (List.replicate 32 0)) HRZ.out SH.out SE.out (u8s_one _) ?_
    refine hK.out _ _ (HGZ.out _) (fun hHeld => ?_)
    clear hK K
    try simp only [Act.put]
    refine wpAnyH_done (by decide +kernel) ?_ _
    refine NoPanic.normal ?_
    go_wp2_with fail
    rw [← HMQ.out] at SH ⊢
    refine bodyPost_ret (v := .agg (u8s (macS key m))) (results_cell_row Tryd.results62 _ _ (C + 1) 26 (u8s (macS key m)) (0, 0) _ rfl (setRow_heap _ (C + 1) _ _ _ _ HRZ.out) Tryd.underlying26 rfl SH.out) rfl ⟨rfl, ?_⟩
    exact below_setRow HBZ.out (by rw [← HCE.out]; exact Nat.le_succ _) _

set_option maxRecDepth 100000 in
set_option maxHeartbeats 1600000 in
theorem rmac_any (k m : List Int) (v u : Value) (w : World) (hv : BS w v k) (hr : Room v) (hu : BS w u m) (hn : k.length ≤ 900000) (hm : m.length ≤ 900000) :
    Calls Tryd.prog 44 #[v, u] w fun e w' => e = .returned (.agg (u8s (macS k m))) ∧ Below w.heap.size w w' := by
  have HV := Lib.hid (And.intro hv (And.intro hr hu))
  have HN := Lib.hid (And.intro hn hm)
  have SH := Lib.hid (size_h32 (macS k m) (macS_length _ _))
  have SE := Lib.hid (show (u8s (List.replicate 32 0)).size = (u8s (macS k m)).size by rw [u8s_size, u8s_size, macS_length]; rfl)
  clear hv hr hu hn hm
  go_enter Tryd.func44, Tryd.ntmps44
  go_wp2_with fail
  refine (made2_any _).mono ?_
  rintro e w1 ⟨⟨g1, c1, g2, c2, rfl, hM⟩, hb1⟩
  have hR := (hb1.block w.heap.size (by simp)).trans (heap_alloc_new w (.cells (u8s (List.replicate 32 0)) 26))
  have hB1 := ((Below.refl w.heap.size w).alloc (Nat.le_refl _) (.cells (u8s (List.replicate 32 0)) 26)).trans (hb1.mono (by simp))
  have HW := Lib.hid (rmacwith_any k m v u g1 c1 g2 c2 w1 hM (HV.out.1.kept hB1) HV.out.2.1 (HV.out.2.2.kept hB1) HN.out.1 HN.out.2)
  have HR1 := Lib.hid (show w1.heap[w.heap.size]? = some (.cells (u8s (List.replicate 32 0)) 26 (0, 0)) from hR)
  have HB1 := Lib.hid hB1
  clear hR hB1 hb1 hM
  go_wp2_with fail
  refine HW.out.mono ?_
  rintro e w2 ⟨rfl, hb2⟩
  have HR2 := Lib.hid ((hb2.block _ (lt_of_block HR1.out)).trans HR1.out)
  have HB2 := Lib.hid (HB1.out.trans (hb2.mono HB1.out.size))
  clear hb2
  go_wp2_with (first
    | (with_reducible refine wpList_store_row (o := ⟨none, .store _ (.tmp 4) _, _, _, _, _⟩) rfl 26 _ _ rfl w.heap.size (u8s (macS k m)) rfl rfl 26 (u8s (List.replicate 32 0)) HR2.out SH.out SE.out (u8s_one _) ?_))
  refine bodyPost_ret (v := .agg (u8s (macS k m))) (results_cell_row Tryd.results44 _ _ w.heap.size 26 (u8s (macS k m)) (0, 0) _ rfl (setRow_heap _ w.heap.size _ _ _ _ HR2.out) Tryd.underlying26 rfl SH.out) rfl ⟨rfl, ?_⟩
  exact below_setRow HB2.out (Nat.le_refl _) _

set_option maxRecDepth 100000 in
set_option maxHeartbeats 1600000 in
theorem rderive_any (k : List Int) (v : Value) (s : ByteArray) (w : World) (hv : BS w v k) (hr : Room v) (hn : k.length ≤ 900000) (hs : s.size ≤ 900000) :
    Calls Tryd.prog 27 #[v, .string s] w fun e w' => e = .returned (.agg (u8s (macS k (txt s)))) ∧ Below w.heap.size w w' := by
  have HM := Lib.hid (fun W (hb : Below w.heap.size w W) => rmac_any k (txt s) v _ _ (hv.kept (hb.trans ((bytes_below W s).mono hb.size))) hr (bytes_bs W s) hn (by rw [txt_length]; exact hs))
  have hcv := conv_txt s
  clear hv hr hs hn
  go_enter Tryd.func27, Tryd.ntmps27
  go_upto_region 1 with (fail)
  have hB1 := (Below.refl w.heap.size w).alloc (Nat.le_refl _) (.cells (u8s (List.replicate 32 0)) 26)
  have hR1 := heap_alloc_new w (.cells (u8s (List.replicate 32 0)) 26)
  have hZ1 : w.heap.size < (w.alloc (.cells (u8s (List.replicate 32 0)) 26)).heap.size := by simp
  refine (show ∀ W1 : World, W1 = w.alloc (.cells (u8s (List.replicate 32 0)) 26) → _ from ?_) _ rfl
  intro W1 hW1
  rw [← hW1] at hB1 hR1 hZ1
  have HB1 := Lib.hid hB1
  have HR1 := Lib.hid hR1
  have HZ1 := Lib.hid hZ1
  clear hW1 hR1 hZ1 hB1
  go_wp2_with fail
  refine (HM.out _ HB1.out).mono ?_
  rintro e w2 ⟨rfl, hb2⟩
  have hy := bytes_below W1 s
  have hzy := Lib.bytesWorld_size W1 5 s
  have HB2 := Lib.hid ((HB1.out.trans (hy.mono HB1.out.size)).trans (hb2.mono (by have := HZ1.out; omega)))
  have HR2 := Lib.hid (show w2.heap[w.heap.size]? = some (.cells (u8s (List.replicate 32 0)) 26 (0, 0)) from (hb2.block _ (by have := HZ1.out; omega)).trans ((hy.block _ HZ1.out).trans HR1.out))
  have SH := Lib.hid (size_h32 (macS k (txt s)) (macS_length _ _))
  have SE := Lib.hid (show (u8s (List.replicate 32 0)).size = (u8s (macS k (txt s))).size by rw [u8s_size, u8s_size, macS_length]; rfl)
  clear hy hzy hb2
  go_wp2_with (first
    | (with_reducible refine wpList_store_row (o := ⟨none, .store _ (.tmp 4) _, _, _, _, _⟩) rfl 26 _ _ rfl w.heap.size (u8s (macS k (txt s))) rfl rfl 26 (u8s (List.replicate 32 0)) HR2.out SH.out SE.out (u8s_one _) ?_))
  refine bodyPost_ret (v := .agg (u8s (macS k (txt s)))) (results_cell_row Tryd.results27 _ _ w.heap.size 26 (u8s (macS k (txt s))) (0, 0) _ rfl (setRow_heap _ w.heap.size _ _ _ _ HR2.out) Tryd.underlying26 rfl SH.out) rfl ⟨rfl, ?_⟩
  exact below_setRow HB2.out (Nat.le_refl _) _
end Go.Proofs.YtfgdddejpdjllaaDoor
