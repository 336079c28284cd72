/-
  Blocks sealed: Open, of both.
-/
import Derived.Test.YtfgdddejpdjllaaDoorEd
namespace Go.Proofs.YtfgdddejpdjllaaDoor
set_option maxRecDepth 4000
set_option linter.unusedVariables false
open Go.ChangeShapes Go.WideShapes Go.ChangeAt Go.RowKit

/-- What Open answers. -/
def openA (k : List (BitVec 8)) (P : PtrV) (l : List (BitVec 8)) : List (BitVec 8) × Int :=
  if l.length ≠ 512 then ([], 2) else if fitsB P (l.map yv) = true then (sealS k P.bi.toNat P.ad.toNat l, 0) else ([], 5)
theorem fits_len (P : PtrV) (l : List (BitVec 8)) (h : l.length = 512) : fitsB P (l.map yv) = decide (hashS (l.map yv) = P.su) := by
  unfold fitsB
  rw [List.length_map, h]
  simp
set_option maxRecDepth 100000 in
set_option maxHeartbeats 3200000 in
theorem popen12_any (k m : List (BitVec 8)) (P : PtrV) (l : List (BitVec 8)) (ad : Option Addr) (n cap : Nat) (w : World) (hK : KT w) (hk : k.length = 32) (hm : m.length = 32) (hB : Bts w ad n cap l) :
    Calls Tryd.prog 17 #[.agg (yvs (k ++ m)), .agg (ptrRow P).toArray, .slice ad n cap] w fun e w' => ∃ x y z, e = .returned (.tuple #[.slice x y z, .int .i64 (openA k P l).2]) ∧ Bts w' x y z (openA k P l).1 ∧ Below w.heap.size w w' := by
  obtain ⟨b1, b2, b3, b4⟩ := hB
  obtain ⟨a, ha⟩ : ∃ a : Nat, P.bi = (a : Int) := ⟨P.bi.toNat, by have := P.b0; omega⟩
  obtain ⟨c, hc⟩ : ∃ c : Nat, P.ad = (c : Int) := ⟨P.ad.toNat, by have := P.a0; omega⟩
  have ha2 : a < 18446744073709551616 := by have := P.b0; omega
  have hc2 : c < 4294967296 := by have := P.a0; omega
  have hat : P.bi.toNat = a := by omega
  have hct : P.ad.toNat = c := by omega
  have HF := Lib.hid (fun (W : World) (hb : Below w.heap.size w W) => pfits_any P (l.map yv) ad n cap W (hK.below hb hK.pos) (b1.kept hb) (by rw [List.length_map]; exact b2) b3 b4)
  obtain ⟨hA0, hP0, hsz, hb0⟩ := ytwo w (.cells (yvs (k ++ m)) 28) (.cells (ptrRow P).toArray 41)
  have hcells := ptr_at hP0
  rw [ha, hc] at hcells
  have SZ := Lib.hid (size_ptrA P)
  have HSZ := Lib.hid hsz
  have SK := Lib.hid (size_keys (k ++ m) (by rw [List.length_append, hk, hm]))
  by_cases h : n = 512
  · have hl : l.length = 512 := by omega
    rw [show openA k P l = (if fitsB P (l.map yv) = true then (sealS k a c l, 0) else ([], 5)) by unfold openA; rw [if_neg (by omega), hat, hct]]
    subst h
    have HC := Lib.hid (fun (W : World) (hb : Below w.heap.size w W) => crypted_any k m a c l ad cap W hk hl (b1.kept hb) hc2)
    have HSL := Lib.hid (sealS_length k a c l hl)
    have HCE := Lib.hid hcells
    have HP0 := Lib.hid hP0
    have HA0 := Lib.hid hA0
    have HB1 := Lib.hid hb0
    clear hat hct ha hc ha2 hc2 hA0 hP0 hsz hb0 hcells b1 b2 b3 b4 hl hk hm hK
    generalize sealS k a c l = S at *
    generalize fitsB P (l.map yv) = D at *
    generalize (ptrRow P).toArray = PR at *
    generalize yvs (k ++ m) = KM at *
    generalize hw1 : (w.alloc (.cells (KM) 28)).alloc (.cells PR 41) = w1 at *
    go_enter Tryd.func17, Tryd.ntmps17
    go_upto_region 1 with fail
    try rw [hw1]
    clear hw1
    go_wp2_with (first
      | (with_reducible refine wpList_load_row (o := ⟨some 11, _, _, _, _, _⟩) rfl 41 _ rfl (w.heap.size + 1) rfl 41 PR (0, 0) _ HP0.out Tryd.underlying41 rfl SZ.out ?_))
    refine (HF.out w1 HB1.out).mono ?_
    rintro e w2 ⟨rfl, hb2⟩
    have HB2 := Lib.hid (HB1.out.trans (hb2.mono HB1.out.size))
    have HA2 := Lib.hid ((hb2.block (w.heap.size) (lt_of_block HA0.out)).trans HA0.out)
    have HC0 := Lib.hid ((hb2.cell (p := ⟨w.heap.size + 1, 0, none⟩) (block_lt_of_cell HCE.out.1)).trans HCE.out.1)
    have HC1 := Lib.hid ((hb2.cell (p := ⟨w.heap.size + 1, 1, none⟩) (block_lt_of_cell HCE.out.2.1)).trans HCE.out.2.1)
    clear hb2 HF HP0 HA0 HCE
    cases D with
    | false =>
      go_wp2_with fail
      go_ret2
      exact ⟨none, 0, 0, rfl, Bts.nil _, HB2.out⟩
    | true =>
      have hc0 := HC0.out
      have hc1 := HC1.out
      go_wp2_with (first
        | (with_reducible refine wpList_load_row (o := ⟨some 15, _, _, _, _, _⟩) rfl 28 _ rfl w.heap.size rfl 28 KM (0, 0) _ HA2.out Tryd.underlying28 rfl SK.out ?_))
      refine (HC.out w2 HB2.out).mono ?_
      rintro e w3 ⟨g, hg, rfl, hA3, hb3⟩
      have HB3 := Lib.hid (HB2.out.trans (hb3.mono HB2.out.size))
      have HA3 := Lib.hid hA3
      clear hb3 hA3 hg HC hc0 hc1
      go_wp2_with fail
      go_ret2
      exact ⟨_, _, _, rfl, Bts.arr HA3.out HSL.out (by decide), HB3.out⟩
  · have h1 : ((n : Int) != 512) = true := by simp; omega
    rw [show openA k P l = ([], 2) by unfold openA; rw [if_pos (by omega)]]
    have HB1 := Lib.hid hb0
    clear hat hct ha hc ha2 hc2 hA0 hP0 hsz hb0 hcells b1 b2 b3 b4 hk hm HF h
    generalize (ptrRow P).toArray = PR at *
    generalize yvs (k ++ m) = KM at *
    generalize hw1 : (w.alloc (.cells (KM) 28)).alloc (.cells PR 41) = w1 at *
    go_enter Tryd.func17, Tryd.ntmps17
    go_upto_region 1 with fail
    try rw [hw1]
    clear hw1
    go_wp2_with fail
    go_ret2
    exact ⟨none, 0, 0, rfl, Bts.nil _, HB1.out⟩
set_option maxRecDepth 100000 in
set_option maxHeartbeats 3200000 in
theorem ropen12_any (k m : List (BitVec 8)) (P : PtrV) (l : List (BitVec 8)) (ad : Option Addr) (n cap : Nat) (w : World) (hk : k.length = 32) (hm : m.length = 32) (hB : Bts w ad n cap l) :
    Calls Tryd.prog 18 #[.agg (yvs boxesL), .agg (yvs (k ++ m)), .agg (ptrRow P).toArray, .slice ad n cap] w fun e w' => ∃ x y z, e = .returned (.tuple #[.slice x y z, .int .i64 (openA k P l).2]) ∧ Bts w' x y z (openA k P l).1 ∧ Below w.heap.size w w' := by
  obtain ⟨b1, b2, b3, b4⟩ := hB
  obtain ⟨a, ha⟩ : ∃ a : Nat, P.bi = (a : Int) := ⟨P.bi.toNat, by have := P.b0; omega⟩
  obtain ⟨c, hc⟩ : ∃ c : Nat, P.ad = (c : Int) := ⟨P.ad.toNat, by have := P.a0; omega⟩
  have ha2 : a < 18446744073709551616 := by have := P.b0; omega
  have hc2 : c < 4294967296 := by have := P.a0; omega
  have hat : P.bi.toNat = a := by omega
  have hct : P.ad.toNat = c := by omega
  have HF := Lib.hid (fun (W : World) (hb : Below w.heap.size w W) => rfits_any P (l.map yv) ad n cap W (b1.kept hb) (by rw [List.length_map]; exact b2) b3 b4)
  obtain ⟨hT0, hA0, hP0, hsz, hb0⟩ := ythree w (.cells (yvs boxesL) 38) (.cells (yvs (k ++ m)) 31) (.cells (ptrRow P).toArray 41)
  have hcells := ptr_at hP0
  rw [ha, hc] at hcells
  have SZ := Lib.hid (size_ptrA P)
  have HSZ := Lib.hid hsz
  have HTK := Lib.hid (info_rkeyL k hk)
  have HTB := Lib.hid info_boxes
  by_cases h : n = 512
  · have hl : l.length = 512 := by omega
    rw [show openA k P l = (if fitsB P (l.map yv) = true then (sealS k a c l, 0) else ([], 5)) by unfold openA; rw [if_neg (by omega), hat, hct]]
    subst h
    have HN := Lib.hid (fun W => rmade_any5 a c W ha2 hc2)
    have HC := Lib.hid (fun (W : World) (hb : Below w.heap.size w W) => show Calls Tryd.prog 31 #[.agg (yvs boxesL), .agg (yvs k), .agg (yvs (beY 8 a ++ beY 4 c)), .slice ad 512 cap] W (SliceUp W (sealS k a c l) 512) from rcrypt_up k (beY 8 a ++ beY 4 c) l ad 512 cap W (b1.kept hb) hl (by decide) hk (by simp [beY_length]))
    have HSL := Lib.hid (sealS_length k a c l hl)
    have HCE := Lib.hid hcells
    have HP0 := Lib.hid hP0
    have HA0 := Lib.hid hA0
    have HB1 := Lib.hid hb0
    have HRG := Lib.hid (And.intro (ArrY.all (show ArrY _ w.heap.size 38 boxesL from hT0)) (KeyB.enc (show KeyB _ (w.heap.size + 1) 31 k m from hA0) hk))
    clear hat hct ha hc ha2 hc2 hA0 hP0 hsz hb0 hcells b1 b2 b3 b4 hl hk hm hT0
    generalize sealS k a c l = S at *
    generalize fitsB P (l.map yv) = D at *
    generalize hNL : beY 8 a ++ beY 4 c = NL at *
    clear hNL
    generalize (ptrRow P).toArray = PR at *
    generalize yvs (k ++ m) = KM at *
    generalize hTL : yvs boxesL = TBL at *
    clear hTL
    generalize hw1 : ((w.alloc (.cells (TBL) 38)).alloc (.cells (KM) 31)).alloc (.cells PR 41) = w1 at *
    go_enter Tryd.func18, Tryd.ntmps18
    go_upto_region 1 with fail
    try rw [hw1]
    clear hw1
    go_wp2_with (first
      | (with_reducible refine wpList_load_row (o := ⟨some 13, _, _, _, _, _⟩) rfl 41 _ rfl (w.heap.size + 1 + 1) rfl 41 PR (0, 0) _ HP0.out Tryd.underlying41 rfl SZ.out ?_))
    refine (HF.out w1 HB1.out).mono ?_
    rintro e w2 ⟨rfl, hb2⟩
    have HB2 := Lib.hid (HB1.out.trans (hb2.mono HB1.out.size))
    have HA2 := Lib.hid ((hb2.block (w.heap.size + 1) (lt_of_block HA0.out)).trans HA0.out)
    have HC0 := Lib.hid ((hb2.cell (p := ⟨w.heap.size + 1 + 1, 0, none⟩) (block_lt_of_cell HCE.out.1)).trans HCE.out.1)
    have HC1 := Lib.hid ((hb2.cell (p := ⟨w.heap.size + 1 + 1, 1, none⟩) (block_lt_of_cell HCE.out.2.1)).trans HCE.out.2.1)
    have HRG2 := Lib.hid (show w2.rangeAt w.heap.size 0 TBL.toList ∧ w2.rangeAt (w.heap.size + 1) 0 (yvs k).toList from ⟨fun j v hj => by_cell (HRG.out.1 j v hj) ⟨w2, hb2⟩, fun j v hj => by_cell (HRG.out.2 j v hj) ⟨w2, hb2⟩⟩)
    clear hb2 HF HP0 HA0 HCE
    cases D with
    | false =>
      go_wp2_with fail
      go_ret2
      exact ⟨none, 0, 0, rfl, Bts.nil _, HB2.out⟩
    | true =>
      have HSV := Lib.hid (show ∀ W, Below w2.heap.size w2 W → W.rangeAt w.heap.size 0 TBL.toList ∧ W.rangeAt (w.heap.size + 1) 0 (yvs k).toList ∧ W.cell? ⟨w.heap.size + 1 + 1, 1, none⟩ = some (.int .u64 (a : Int)) ∧ W.cell? ⟨w.heap.size + 1 + 1, 0, none⟩ = some (.int .u32 (c : Int)) from fun W hW => ⟨fun j v hj => by_cell (HRG2.out.1 j v hj) ⟨W, hW⟩, fun j v hj => by_cell (HRG2.out.2 j v hj) ⟨W, hW⟩, by_cell HC1.out ⟨W, hW⟩, by_cell HC0.out ⟨W, hW⟩⟩)
      go_upto_region 5 with fail
      try simp only [Act.put]
      refine wp_region_noPanic ?_
      refine wp_region_held_drew (S := fun W => W.rangeAt w.heap.size 0 TBL.toList ∧ W.rangeAt (w.heap.size + 1) 0 (yvs k).toList ∧ W.cell? ⟨w.heap.size + 1 + 1, 1, none⟩ = some (.int .u64 (a : Int)) ∧ W.cell? ⟨w.heap.size + 1 + 1, 0, none⟩ = some (.int .u32 (c : Int))) (by kernel_rfl) (HSV.out _ (Below.refl _ w2).drew) (fun hHeld => ?_)
      refine wpAnyH_take (i := 0) (oi := ⟨some 17, _, _, _, _, _⟩) rfl (by kernel_rfl) (by decide +kernel) (by decide +kernel) (fun _ _ _ h => h) (yieldsIf_load_mid (by rfl) _ _ rfl (w.heap.size) (0) rfl TBL.toList _ (fun w' h => h.1) Tryd.underlying38 rfl HTB.out) (by assumption) ?_
      try simp only [Act.put, List.setIfInBounds_toArray, List.set_cons_zero, List.set_cons_succ, Array.toArray_toList]
      refine wpAnyH_take (i := 1) (oi := ⟨some 18, _, _, _, _, _⟩) (v := ?_) rfl (by kernel_rfl) (by decide +kernel) (by decide +kernel) (fun _ _ _ h => h) (Or.inl ⟨by rfl, ?_⟩) (by assumption) ?_
      rotate_left 1
      · (intro w' hSw; go_simp; try with_reducible rfl)
      try simp only [Act.put, List.setIfInBounds_toArray, List.set_cons_zero, List.set_cons_succ]
      refine wpAnyH_take (i := 2) (oi := ⟨some 19, _, _, _, _, _⟩) rfl (by kernel_rfl) (by decide +kernel) (by decide +kernel) (fun _ _ _ h => h) (yieldsIf_load_mid (by rfl) _ _ rfl (w.heap.size + 1) (0) rfl (yvs k).toList _ (fun w' h => h.2.1) Tryd.underlying24 rfl HTK.out) (by assumption) ?_
      try simp only [Act.put, List.setIfInBounds_toArray, List.set_cons_zero, List.set_cons_succ, Array.toArray_toList]
      refine wpAnyH_take (i := 3) (oi := ⟨some 20, _, _, _, _, _⟩) (v := ?_) rfl (by kernel_rfl) (by decide +kernel) (by decide +kernel) (fun _ _ _ h => h) (Or.inl ⟨by rfl, ?_⟩) (by assumption) ?_
      rotate_left 1
      · (intro w' hSw; go_simp; try with_reducible rfl)
      try simp only [Act.put, List.setIfInBounds_toArray, List.set_cons_zero, List.set_cons_succ]
      refine wpAnyH_take (i := 4) (oi := ⟨some 21, _, _, _, _, _⟩) (v := ?_) rfl (by kernel_rfl) (by decide +kernel) (by decide +kernel) (fun _ _ _ h => h) (Or.inl ⟨by rfl, ?_⟩) (by assumption) ?_
      rotate_left 1
      · (intro w' hSw; have hcell := hSw.2.2.1; clear hSw; go_simp; try with_reducible rfl)
      try simp only [Act.put, List.setIfInBounds_toArray, List.set_cons_zero, List.set_cons_succ]
      refine wpAnyH_take (i := 5) (oi := ⟨some 22, _, _, _, _, _⟩) (v := ?_) rfl (by kernel_rfl) (by decide +kernel) (by decide +kernel) (fun _ _ _ h => h) (Or.inl ⟨by rfl, ?_⟩) (by assumption) ?_
      rotate_left 1
      · (intro w' hSw; go_simp; try with_reducible rfl)
      try simp only [Act.put, List.setIfInBounds_toArray, List.set_cons_zero, List.set_cons_succ]
      refine wpAnyH_take (i := 6) (oi := ⟨some 23, _, _, _, _, _⟩) (v := ?_) rfl (by kernel_rfl) (by decide +kernel) (by decide +kernel) (fun _ _ _ h => h) (Or.inl ⟨by rfl, ?_⟩) (by assumption) ?_
      rotate_left 1
      · (intro w' hSw; have hcell := hSw.2.2.2; clear hSw; go_simp; try with_reducible rfl)
      try simp only [Act.put, List.setIfInBounds_toArray, List.set_cons_zero, List.set_cons_succ]
      refine wpAnyH_take (i := 8) (oi := ⟨some 25, _, _, _, _, _⟩) (v := ?_) rfl (by kernel_rfl) (by decide +kernel) (by decide +kernel) (fun _ _ _ h => h) (Or.inl ⟨by rfl, ?_⟩) (by assumption) ?_
      rotate_left 1
      · (intro w' hSw; go_simp; try with_reducible rfl)
      try simp only [Act.put, List.setIfInBounds_toArray, List.set_cons_zero, List.set_cons_succ]
      clear hHeld
      refine wpAnyH_ready (rs := [7]) (by decide +kernel) (by simp) ?_
      refine AllReadyH.cons rfl (fun K hK => ?_) AllReadyH.nil
      go_simp
      go_at_call 32
      refine (HN.out _).mono ?_
      rintro e w3 ⟨rfl, hb⟩
      have HB3 := Lib.hid ((Below.refl w2.heap.size w2).drew.trans (hb.mono (Below.refl w2.heap.size w2).drew.size))
      clear hb
      go_wp2_with fail
      refine hK.out _ _ (HSV.out _ HB3.out) (fun hHeld => ?_)
      clear hK K
      try simp only [Act.put, List.setIfInBounds_toArray, List.set_cons_zero, List.set_cons_succ]
      clear hHeld
      refine wpAnyH_ready (rs := [9]) (by decide +kernel) (by simp) ?_
      refine AllReadyH.cons rfl (fun K hK => ?_) AllReadyH.nil
      go_simp
      go_at_call 31
      refine (HC.out _ (HB2.out.trans (HB3.out.mono HB2.out.size))).mono ?_
      intro e w4 h4
      unfold SliceUp at h4
      obtain ⟨b4, cap4, rfl, B4, hc4, hd4, _, hb⟩ := h4
      have HB4 := Lib.hid (HB3.out.trans (hb.mono HB3.out.size))
      have HX4 := Lib.hid (And.intro B4 (And.intro hc4 hd4))
      clear hb B4 hc4 hd4
      go_wp2_with fail
      refine hK.out _ _ (HSV.out _ HB4.out) (fun hHeld => ?_)
      clear hK K
      try simp only [Act.put, List.setIfInBounds_toArray, List.set_cons_zero, List.set_cons_succ]
      refine wpAnyH_take (i := 10) (oi := ⟨some 27, _, _, _, _, _⟩) (v := ?_) rfl (by kernel_rfl) (by decide +kernel) (by decide +kernel) (fun _ _ _ h => h) (Or.inl ⟨by rfl, ?_⟩) (by assumption) ?_
      rotate_left 1
      · (intro w' hSw; go_simp; try with_reducible rfl)
      try simp only [Act.put, List.setIfInBounds_toArray, List.set_cons_zero, List.set_cons_succ]
      refine wpAnyH_take (i := 11) (oi := ⟨some 28, _, _, _, _, _⟩) (v := ?_) rfl (by kernel_rfl) (by decide +kernel) (by decide +kernel) (fun _ _ _ h => h) (Or.inl ⟨by rfl, ?_⟩) (by assumption) ?_
      rotate_left 1
      · (intro w' hSw; go_simp; try with_reducible rfl)
      try simp only [Act.put, List.setIfInBounds_toArray, List.set_cons_zero, List.set_cons_succ]
      refine wpAnyH_take (i := 12) (oi := ⟨some 8, _, _, _, _, _⟩) (v := ?_) rfl (by kernel_rfl) (by decide +kernel) (by decide +kernel) (fun _ _ _ h => h) (Or.inl ⟨by rfl, ?_⟩) (by assumption) ?_
      rotate_left 1
      · (intro w' hSw; go_simp; try with_reducible rfl)
      try simp only [Act.put, List.setIfInBounds_toArray, List.set_cons_zero, List.set_cons_succ]
      refine wpAnyH_take (i := 13) (oi := ⟨some 9, _, _, _, _, _⟩) (v := ?_) rfl (by kernel_rfl) (by decide +kernel) (by decide +kernel) (fun _ _ _ h => h) (Or.inl ⟨by rfl, ?_⟩) (by assumption) ?_
      rotate_left 1
      · (intro w' hSw; go_simp; try with_reducible rfl)
      try simp only [Act.put, List.setIfInBounds_toArray, List.set_cons_zero, List.set_cons_succ]
      clear hHeld
      refine wpAnyH_done (by decide +kernel) ?_ _
      refine NoPanic.normal ?_
      go_wp2_with fail
      go_ret2
      exact ⟨_, _, _, rfl, ⟨HX4.out.1, HSL.out, HX4.out.2.1, HX4.out.2.2⟩, HB2.out.trans (HB4.out.mono HB2.out.size)⟩
  · have h1 : ((n : Int) != 512) = true := by simp; omega
    rw [show openA k P l = ([], 2) by unfold openA; rw [if_pos (by omega)]]
    have HB1 := Lib.hid hb0
    clear hat hct ha hc ha2 hc2 hA0 hP0 hsz hb0 hcells b1 b2 b3 b4 hk hm HF h hT0
    generalize (ptrRow P).toArray = PR at *
    generalize yvs (k ++ m) = KM at *
    generalize yvs boxesL = TBL at *
    generalize hw1 : ((w.alloc (.cells (TBL) 38)).alloc (.cells (KM) 31)).alloc (.cells PR 41) = w1 at *
    go_enter Tryd.func18, Tryd.ntmps18
    go_upto_region 1 with fail
    try rw [hw1]
    clear hw1
    go_wp2_with fail
    go_ret2
    exact ⟨none, 0, 0, rfl, Bts.nil _, HB1.out⟩
end Go.Proofs.YtfgdddejpdjllaaDoor
