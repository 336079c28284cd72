/-
  The reference's table: all bytes in the box.
-/
import Derived.Test.YtfgdddejpdjllaaDoorRSumB
import Derived.Deep.Cut
namespace Go.Proofs.YtfgdddejpdjllaaDoor
set_option maxRecDepth 4000
open Go.RowKit

/-- The powers of 3. -/
def powsL : List (BitVec 8) := [
  0x01, 0x03, 0x05, 0x0f, 0x11, 0x33, 0x55, 0xff, 0x1a, 0x2e, 0x72, 0x96, 0xa1, 0xf8, 0x13, 0x35,
  0x5f, 0xe1, 0x38, 0x48, 0xd8, 0x73, 0x95, 0xa4, 0xf7, 0x02, 0x06, 0x0a, 0x1e, 0x22, 0x66, 0xaa,
  0xe5, 0x34, 0x5c, 0xe4, 0x37, 0x59, 0xeb, 0x26, 0x6a, 0xbe, 0xd9, 0x70, 0x90, 0xab, 0xe6, 0x31,
  0x53, 0xf5, 0x04, 0x0c, 0x14, 0x3c, 0x44, 0xcc, 0x4f, 0xd1, 0x68, 0xb8, 0xd3, 0x6e, 0xb2, 0xcd,
  0x4c, 0xd4, 0x67, 0xa9, 0xe0, 0x3b, 0x4d, 0xd7, 0x62, 0xa6, 0xf1, 0x08, 0x18, 0x28, 0x78, 0x88,
  0x83, 0x9e, 0xb9, 0xd0, 0x6b, 0xbd, 0xdc, 0x7f, 0x81, 0x98, 0xb3, 0xce, 0x49, 0xdb, 0x76, 0x9a,
  0xb5, 0xc4, 0x57, 0xf9, 0x10, 0x30, 0x50, 0xf0, 0x0b, 0x1d, 0x27, 0x69, 0xbb, 0xd6, 0x61, 0xa3,
  0xfe, 0x19, 0x2b, 0x7d, 0x87, 0x92, 0xad, 0xec, 0x2f, 0x71, 0x93, 0xae, 0xe9, 0x20, 0x60, 0xa0,
  0xfb, 0x16, 0x3a, 0x4e, 0xd2, 0x6d, 0xb7, 0xc2, 0x5d, 0xe7, 0x32, 0x56, 0xfa, 0x15, 0x3f, 0x41,
  0xc3, 0x5e, 0xe2, 0x3d, 0x47, 0xc9, 0x40, 0xc0, 0x5b, 0xed, 0x2c, 0x74, 0x9c, 0xbf, 0xda, 0x75,
  0x9f, 0xba, 0xd5, 0x64, 0xac, 0xef, 0x2a, 0x7e, 0x82, 0x9d, 0xbc, 0xdf, 0x7a, 0x8e, 0x89, 0x80,
  0x9b, 0xb6, 0xc1, 0x58, 0xe8, 0x23, 0x65, 0xaf, 0xea, 0x25, 0x6f, 0xb1, 0xc8, 0x43, 0xc5, 0x54,
  0xfc, 0x1f, 0x21, 0x63, 0xa5, 0xf4, 0x07, 0x09, 0x1b, 0x2d, 0x77, 0x99, 0xb0, 0xcb, 0x46, 0xca,
  0x45, 0xcf, 0x4a, 0xde, 0x79, 0x8b, 0x86, 0x91, 0xa8, 0xe3, 0x3e, 0x42, 0xc6, 0x51, 0xf3, 0x0e,
  0x12, 0x36, 0x5a, 0xee, 0x29, 0x7b, 0x8d, 0x8c, 0x8f, 0x8a, 0x85, 0x94, 0xa7, 0xf2, 0x0d, 0x17,
  0x39, 0x4b, 0xdd, 0x7c, 0x84, 0x97, 0xa2, 0xfd, 0x1c, 0x24, 0x6c, 0xb4, 0xc7, 0x52, 0xf6, 0x01]
theorem pows_length : powsL.length = 256 := by decide +kernel
theorem pows_zero : powsL.getD 0 0 = 1 := by decide +kernel
theorem pows_step : ∀ i, i < 255 → powsL.getD (i + 1) 0 = gm (powsL.getD i 0) 3 := by decide +kernel
theorem table_full : setF (fun i => (powsL.getD i 0).toNat) (fun i => affine (powsL.getD (255 - i) 0)) 255 ((zeroY 256).set 0 (affine 0)) = boxesL := by decide +kernel
theorem ylt {w : World} {g t : Nat} {l : List (BitVec 8)} (h : ArrY w g t l) : g < w.heap.size := Nat.lt_of_not_le fun e => by
  unfold ArrY at h
  rw [Array.getElem?_eq_none e] at h
  cases h
theorem setF_done (P Z : List (BitVec 8)) (hZ : Z.length = 256) (i j : Nat) (hj : j < i) (hi : i ≤ 256) : (setF id (fun i => P.getD i 0) i Z).getD j 0 = P.getD j 0 := by
  induction i with
  | zero => omega
  | succ n ih =>
    unfold setF
    by_cases h : j = n
    · subst h
      simp [List.getD, setF_length, show j < Z.length by omega]
    · have := ih (by omega) (by omega)
      simp only [List.getD, List.getElem?_set] at this ⊢
      rw [if_neg (fun e => h e.symm)]
      exact this
set_option maxRecDepth 100000 in
set_option maxHeartbeats 1600000 in
theorem rtable_any (w : World) : Calls Tryd.prog 13 #[] w fun e w' => e = .returned (.agg (yvs boxesL)) ∧ Below w.heap.size w w' := by
  have hz := zero_t256
  have hfull := table_full
  have hul := boxes_length
  have zl : (zeroY 256).length = 256 := by simp [zeroY]
  have hpl := pows_length
  have hp0 := pows_zero
  have hps := pows_step
  generalize powsL = P at *
  generalize boxesL = U at *
  generalize zeroY 256 = Z at *
  have HT := Lib.hid (show ∀ (x : BitVec 8) w, Calls Tryd.prog 28 #[.int .u8 (yv x), .int .u8 3] w fun e w' => e = .returned (.int .u8 (yv (gm x 3))) ∧ Below w.heap.size w w' from fun x w => rtimes_any x 3 w)
  have H0 := Lib.hid (show ∀ w, Calls Tryd.prog 29 #[.int .u8 0] w fun e w' => e = .returned (.int .u8 (yv (affine 0))) ∧ Below w.heap.size w w' from fun w => rboxed_any 0 w)
  have HBX := Lib.hid (fun x w => rboxed_any x w)
  generalize affine 0 = A0 at *
  have HF := Lib.hid (show ∀ L, L = setF (fun i => (P.getD i 0).toNat) (fun i => affine (P.getD (255 - i) 0)) 255 (Z.set 0 A0) → L = U from fun L h => h.trans hfull)
  have HUL := Lib.hid hul
  have ZL := Lib.hid zl
  have HPL := Lib.hid hpl
  have HP1 := Lib.hid hp0
  have HPS := Lib.hid hps
  have HSD := Lib.hid (fun i j => setF_done P Z zl i j)
  clear hfull hul zl hpl hp0 hps
  go_enter Tryd.func13, Tryd.ntmps13
  go_upto_region 2 with fail
  clear hz
  refine ygen3 fun W0 hW => ?_
  obtain ⟨h0, h1, h2, hsz, hbel⟩ := hW
  have hR : ArrY W0 w.heap.size 38 Z := h0
  have hM : ArrY W0 (w.heap.size + 1) 38 Z := h1
  have hP : ArrY W0 (w.heap.size + 1 + 1) 38 Z := h2
  have c0 := hP.cell (k := 0) (by rw [ZL.out]; decide)
  have f0 := hP.free 0
  have hst : ArrY (W0.setCell ⟨w.heap.size + 1 + 1, 0, none⟩ (.int .u8 1)) (w.heap.size + 1 + 1) 38 (setF id (fun i => P.getD i 0) 1 Z) := by
    have h := hP.set 0 1
    show ArrY _ _ _ ((setF id (fun i => P.getD i 0) 0 Z).set 0 (P.getD 0 0))
    rw [HP1.out]
    exact h
  have H1 := Lib.hid (And.intro hst (And.intro (hM.other ⟨w.heap.size + 1 + 1, 0, none⟩ (.int .u8 1) (show w.heap.size + 1 ≠ w.heap.size + 1 + 1 by omega)) (And.intro (hR.other ⟨w.heap.size + 1 + 1, 0, none⟩ (.int .u8 1) (show w.heap.size ≠ w.heap.size + 1 + 1 by omega)) (hbel.setCell (p := ⟨w.heap.size + 1 + 1, 0, none⟩) (show w.heap.size ≤ w.heap.size + 1 + 1 by omega) (.int .u8 1)))))
  clear h0 h1 h2 hsz hbel hR hM hP hst
  generalize Z.getD 0 0 = z0 at *
  go_wp2_with fail
  clear c0 f0
  go_loopw [3] (fun v3 wr => ∃ i : Nat, 1 ≤ i ∧ i ≤ 256 ∧ v3 = .int .i64 (i : Nat) ∧ ArrY wr (w.heap.size + 1 + 1) 38 (setF id (fun i => P.getD i 0) i Z) ∧ ArrY wr (w.heap.size + 1) 38 Z ∧ ArrY wr w.heap.size 38 Z ∧ Below w.heap.size w wr) (fun v _ => 256 - (intOf v).toNat)
  case atStart => exact ⟨1, by omega, by omega, rfl, H1.out.1, H1.out.2.1, H1.out.2.2.1, H1.out.2.2.2⟩
  case round =>
    clear H1
    obtain ⟨i, h1, hi, rfl, hP, hM, hR, hb⟩ := hrel
    by_cases hlt : i < 256
    · obtain ⟨p, ep, hp⟩ : ∃ p : Nat, IntKind.i64.wrap ((i : Int) - 1) = (p : Int) ∧ i = p + 1 := ⟨i - 1, by rw [IntWalk.i64_in _ (by omega)]; omega, by omega⟩
      have cp := hP.cell (k := p) (by rw [setF_length, ZL.out]; omega)
      rw [HSD.out i p (by omega) (by omega)] at cp
      have HPI := Lib.hid (show P.getD i 0 = gm (P.getD p 0) 3 by rw [hp]; exact HPS.out p (by omega))
      have HST := Lib.hid (show setF id (fun i => P.getD i 0) (i + 1) Z = (setF id (fun i => P.getD i 0) i Z).set i (P.getD i 0) from rfl)
      generalize P.getD p 0 = x at *
      have HQ := Lib.hid (And.intro hlt hp)
      have HA := Lib.hid (And.intro hP (And.intro hM hR))
      have HB := Lib.hid hb
      have iI : (i : Int) < 256 := by omega
      have i0 : (1 : Int) ≤ (i : Int) := by omega
      have pI : (p : Int) < 256 := by omega
      have p0 : (0 : Int) ≤ (p : Int) := by omega
      clear h1 hi hlt hp hP hM hR hb
      go_wp2_with fail
      refine (HT.out x _).mono ?_
      rintro e w1 ⟨rfl, hb1⟩
      have hP1 := HA.out.1.below hb1 (ylt HA.out.1)
      have HA1 := Lib.hid (And.intro hP1 (And.intro (HA.out.2.1.below hb1 (ylt HA.out.2.1)) (HA.out.2.2.below hb1 (ylt HA.out.2.2))))
      have HB1 := Lib.hid (HB.out.trans (hb1.mono HB.out.size))
      have ci := hP1.cell (k := i) (by rw [setF_length, ZL.out]; exact HQ.out.1)
      have fi := hP1.free i
      generalize (setF id (fun i => P.getD i 0) i Z).getD i 0 = old at *
      clear hP1 hb1 cp
      go_wp2_with fail
      go_roundw
      case rel => exact ⟨i + 1, by omega, by have := HQ.out; omega, by go_num, by rw [HST.out, HPI.out]; exact HA1.out.1.set i _, HA1.out.2.1.other _ _ (show w.heap.size + 1 ≠ w.heap.size + 1 + 1 by omega), HA1.out.2.2.other _ _ (show w.heap.size ≠ w.heap.size + 1 + 1 by omega), HB1.out.setCell (p := ⟨w.heap.size + 1 + 1, i, none⟩) (show w.heap.size ≤ w.heap.size + 1 + 1 by omega) _⟩
      case measure => simp [intOf]; have := HQ.out; omega
    · have hge : (256 : Int) ≤ (i : Int) := by omega
      have hpw : ∀ j, j < 256 → (setF id (fun i => P.getD i 0) i Z).getD j 0 = P.getD j 0 := fun j hj => HSD.out i j (by omega) (by omega)
      have hwl : (setF id (fun i => P.getD i 0) i Z).length = 256 := by rw [setF_length]; exact ZL.out
      clear HSD
      generalize setF id (fun i => P.getD i 0) i Z = PW at *
      have HPW := Lib.hid hpw
      have HWL := Lib.hid hwl
      have HA := Lib.hid (And.intro hP (And.intro hM hR))
      have HB := Lib.hid hb
      clear h1 hi hlt hP hM hR hb hpw hwl
      go_wp2_with fail
      clear hge
      refine (H0.out _).mono ?_
      rintro e w1 ⟨rfl, hb1⟩
      have hT1 := HA.out.2.1.below hb1 (ylt HA.out.2.1)
      have HA1 := Lib.hid (And.intro (HA.out.1.below hb1 (ylt HA.out.1)) (And.intro (hT1.set 0 A0) (HA.out.2.2.below hb1 (ylt HA.out.2.2))))
      have HB1 := Lib.hid (HB.out.trans (hb1.mono HB.out.size))
      have ct := hT1.cell (k := 0) (by rw [ZL.out]; decide)
      have ft := hT1.free 0
      generalize Z.getD 0 0 = zz at *
      clear hb1 hT1
      go_wp2_with fail
      clear ct ft
      go_loopw [4] (fun v4 wr => ∃ i : Nat, i ≤ 255 ∧ v4 = .int .i64 (i : Nat) ∧ ArrY wr (w.heap.size + 1 + 1) 38 PW ∧ ArrY wr (w.heap.size + 1) 38 (setF (fun i => (P.getD i 0).toNat) (fun i => affine (P.getD (255 - i) 0)) i (Z.set 0 A0)) ∧ ArrY wr w.heap.size 38 Z ∧ Below w.heap.size w wr) (fun v _ => 255 - (intOf v).toNat)
      case atStart => exact ⟨0, by omega, rfl, HA1.out.1.other _ _ (show w.heap.size + 1 + 1 ≠ w.heap.size + 1 by omega), HA1.out.2.1, HA1.out.2.2.other _ _ (show w.heap.size ≠ w.heap.size + 1 by omega), HB1.out.setCell (p := ⟨w.heap.size + 1, 0, none⟩) (show w.heap.size ≤ w.heap.size + 1 by omega) _⟩
      case round =>
        clear HA HB HA1 HB1
        obtain ⟨i, hi, rfl, hP, hM, hR, hb⟩ := hrel
        by_cases hlt : i < 255
        · obtain ⟨q, eq, hq⟩ : ∃ q : Nat, IntKind.i64.wrap (255 - (i : Int)) = (q : Int) ∧ 255 - i = q := ⟨255 - i, by rw [IntWalk.i64_in _ (by omega)]; omega, rfl⟩
          have cx := hP.cell (k := i) (by rw [HWL.out]; omega)
          have cy := hP.cell (k := q) (by rw [HWL.out]; omega)
          rw [HPW.out i (by omega)] at cx
          rw [HPW.out q (by omega)] at cy
          have HST := Lib.hid (show setF (fun i => (P.getD i 0).toNat) (fun i => affine (P.getD (255 - i) 0)) (i + 1) (Z.set 0 A0) = (setF (fun i => (P.getD i 0).toNat) (fun i => affine (P.getD (255 - i) 0)) i (Z.set 0 A0)).set (P.getD i 0).toNat (affine (P.getD q 0)) by rw [← hq]; rfl)
          have hml : (setF (fun i => (P.getD i 0).toNat) (fun i => affine (P.getD (255 - i) 0)) i (Z.set 0 A0)).length = 256 := by rw [setF_length, List.length_set]; exact ZL.out
          generalize setF (fun i => (P.getD i 0).toNat) (fun i => affine (P.getD (255 - i) 0)) i (Z.set 0 A0) = M at *
          generalize hM2 : setF (fun i => (P.getD i 0).toNat) (fun i => affine (P.getD (255 - i) 0)) (i + 1) (Z.set 0 A0) = M2 at *
          have HM2 := Lib.hid hM2
          have hxl := (P.getD i 0).isLt
          generalize P.getD i 0 = x at *
          generalize P.getD q 0 = y at *
          have hn := yv_toNat x
          have hx0 := yv_pos x
          have hx1 := yv_lt x
          have HML := Lib.hid (And.intro hml (And.intro hxl hlt))
          have HA := Lib.hid (And.intro hP (And.intro hM hR))
          have HB := Lib.hid hb
          have iI : (i : Int) < 255 := by omega
          have iI2 : (i : Int) < 256 := by omega
          have i0 : (0 : Int) ≤ (i : Int) := by omega
          have qI : (q : Int) < 256 := by omega
          have q0 : (0 : Int) ≤ (q : Int) := by omega
          clear hi hlt hq hP hM hR hb hml hxl hM2
          go_wp2_with fail
          go_region_held3 (fun w' => w'.cell? ⟨w.heap.size + 1 + 1, i, none⟩ = some (.int .u8 (yv x)) ∧ w'.cell? ⟨w.heap.size + 1 + 1, q, none⟩ = some (.int .u8 (yv y)))
            (first
              | exact ⟨cx, cy⟩
              | exact ⟨kx, ky⟩
              | exact ⟨(World.cell?_setCell_other _ _ _ _ (by intro h; injection h; omega)).trans kx, (World.cell?_setCell_other _ _ _ _ (by intro h; injection h; omega)).trans ky⟩)
            ((go_at_call 29; refine (HBX.out y _).mono ?_; rintro e w5 ⟨rfl, hb5⟩; have hM5 := HA.out.2.1.below (Below.trans (Below.refl wr.heap.size wr).drew hb5) (ylt HA.out.2.1); have ct := hM5.cell (k := x.toNat) (by rw [HML.out.1]; exact HML.out.2.1); have ft := hM5.free x.toNat; have kx := (hb5.cell (p := ⟨w.heap.size + 1 + 1, i, none⟩) (show w.heap.size + 1 + 1 < wr.drew.heap.size from ylt HA.out.1)).trans cx; have ky := (hb5.cell (p := ⟨w.heap.size + 1 + 1, q, none⟩) (show w.heap.size + 1 + 1 < wr.drew.heap.size from ylt HA.out.1)).trans cy))
          go_wp2_with fail
          go_roundw
          case rel =>
            have hb5' : Below wr.heap.size wr w5 := (Below.refl wr.heap.size wr).drew.trans hb5
            exact ⟨i + 1, by have := HML.out; omega, by go_num, (HA.out.1.below hb5' (ylt HA.out.1)).other _ _ (show w.heap.size + 1 + 1 ≠ w.heap.size + 1 by omega), by rw [HM2.out, HST.out]; exact hM5.set x.toNat (affine y), (HA.out.2.2.below hb5' (ylt HA.out.2.2)).other _ _ (show w.heap.size ≠ w.heap.size + 1 by omega), (HB.out.trans (hb5'.mono HB.out.size)).setCell (p := ⟨w.heap.size + 1, x.toNat, none⟩) (show w.heap.size ≤ w.heap.size + 1 by omega) _⟩
          case measure => simp [intOf]; have := HML.out; omega
        · have hge : (255 : Int) ≤ (i : Int) := by omega
          have hU : setF (fun i => (P.getD i 0).toNat) (fun i => affine (P.getD (255 - i) 0)) i (Z.set 0 A0) = U := HF.out _ (by rw [show i = 255 by omega])
          rw [hU] at hM
          have HA := Lib.hid (show wr.heap[w.heap.size + 1]? = some (.cells (yvs U) 38 (0, 0)) from hM)
          have HR1 := Lib.hid (show wr.heap[w.heap.size]? = some (.cells (yvs Z) 38 (0, 0)) from hR)
          have SH := Lib.hid (size_t256 U HUL.out)
          have SE := Lib.hid (show (yvs Z).size = (yvs U).size by rw [yvs_size, yvs_size, HUL.out, ZL.out])
          have HB2 := Lib.hid hb
          clear hi hlt hP hM hR hb HF hU
          go_wp2_with (first
            | (with_reducible refine wpList_load_row (o := ⟨some 32, _, _, _, _, _⟩) rfl 38 _ rfl (w.heap.size + 1) rfl 38 (yvs U) (0, 0) _ HA.out Tryd.underlying38 rfl SH.out ?_)
            | (with_reducible refine wpList_store_row (o := ⟨none, .store _ (.tmp 0) _, _, _, _, _⟩) rfl 38 _ _ rfl w.heap.size (yvs U) rfl rfl 38 (yvs Z) HR1.out SH.out SE.out (yvs_one _) ?_))
          refine bodyPost_ret (v := .agg (yvs U)) (results_cell_row Tryd.results13 _ _ w.heap.size 38 (yvs U) (0, 0) _ rfl (setRow_heap _ w.heap.size _ (yvs U) _ _ HR1.out) Tryd.underlying38 rfl SH.out) rfl ⟨rfl, ?_⟩
          exact ybelow_row HB2.out (Nat.le_refl _) _
end Go.Proofs.YtfgdddejpdjllaaDoor
