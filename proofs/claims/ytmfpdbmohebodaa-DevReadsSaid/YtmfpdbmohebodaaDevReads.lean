/-
  'DevReads' returns true at every input, and each argument reads behind the call as it read before. Conditions: none.
-/
import Derived.Test.YtmfpdbmohebodaaRows
import Derived.Test.YtmfpdbmohebodaaYLaid
import Derived.Test.YtmfpdbmohebodaaPOpen
namespace Go.Proofs.Ytmfpdbmohebodaa.devReads
open Go.ChangeShapes Go.WideShapes Go.ChangeAt Go.RowKit
set_option linter.unusedVariables false

theorem slice_lo (g : Nat) (W : World) : (Instr.sliceAt 36 (.slice (some ⟨g, 0, none⟩) 512 512) none (some (.int .i64 256)) none).run Try.prog W = .ok (.slice (some ⟨g, 0, none⟩) 256 512) W := by
  obtain ⟨i0, hi0, _⟩ := Option.map_eq_some_iff.1 yone
  have b : (Instr.sliceBound (.int .i64 256) 512 .sliceAcap).run Try.prog W = .ok 256 W := ybound_ok 256 512 .sliceAcap (by omega) W
  simp [Instr.sliceAt, Instr.slice, run_underlying Try.underlying36, Instr.sliceBounds, sizeOf, typeInfo, hi0, b, Addr.add]
theorem slice_hi (g : Nat) (W : World) : (Instr.sliceAt 36 (.slice (some ⟨g, 0, none⟩) 512 512) (some (.int .i64 256)) none none).run Try.prog W = .ok (.slice (some ⟨g, 256, none⟩) 256 256) W := by
  obtain ⟨i0, hi0, hs⟩ := Option.map_eq_some_iff.1 yone
  have b : (Instr.sliceBound (.int .i64 256) 512 .sliceB).run Try.prog W = .ok 256 W := ybound_ok 256 512 .sliceB (by omega) W
  simp [Instr.sliceAt, Instr.slice, run_underlying Try.underlying36, Instr.sliceBounds, sizeOf, typeInfo, hi0, hs, b, Addr.add]
theorem read_keep (F l : List (BitVec 8)) (a : Nat) (ws : List (Nat × List (BitVec 8))) (h : ∀ p ∈ ws, p.1 ≠ a) : readM F ((a, l) :: ws) a = l := by
  unfold readM
  rw [List.foldl_cons, if_pos rfl]
  induction ws with
  | nil => rfl
  | cons p ws ih =>
    rw [List.foldl_cons, if_neg (h p (by simp))]
    exact ih (fun q hq => h q (by simp [hq]))
theorem crash_first (F l : List (BitVec 8)) (a : Nat) (ws : List (Nat × List (BitVec 8))) : ∀ i, crashM 0 0 F ((a, l) :: ws) (i + 1) = putL F (a * 512) (l.take 256)
  | 0 => by rw [crashM, crashM, stepC, if_pos (show ((0 : Nat) : Int) = 0 from rfl)]; rfl
  | i + 1 => by
    rw [crashM, crash_first F l a ws i, stepC, if_neg (by omega), if_neg (by simp)]
theorem yv_rem (b : BitVec 8) : yv b = ((b.toNat : Nat) : Int) := rfl
theorem yv_of (i : Nat) (h : i < 256) : (i : Int) = yv (BitVec.ofNat 8 i) := by
  rw [yv_nat, BitVec.toNat_ofNat]; omega

set_option maxRecDepth 100000 in
set_option maxHeartbeats 3200000 in
theorem walk (w : World) (a0 : Option Addr) (len0 cap0 : Nat) (x0 : List (BitVec 8)) (e0 : x0.length = len0) (b0 : BS w (.slice a0 len0 cap0) (x0.map yv)) (m0 : len0 ≤ cap0) (n0 : cap0 ≤ 140737488351232) (b1 : BitVec 8) (b2 : BitVec 8) :
    Calls Try.prog 6 #[.slice a0 len0 cap0, .int .u8 (yv b1), .int .u8 (yv b2)] w fun e w' => e = .returned (.bool true) ∧ Below w.heap.size w w' := by
  obtain ⟨n1, hn1⟩ : ∃ n : Nat, b1.toNat = n := ⟨_, rfl⟩
  have hy1 : yv b1 = (n1 : Int) := by rw [yv_nat, hn1]
  rw [hy1]
  obtain ⟨a, ha⟩ : ∃ a : Nat, n1 % 16 = a := ⟨_, rfl⟩
  have haI : (n1 : Int) % 16 = (a : Int) := by omega
  have ha16 : a < 16 := by omega
  have n1I : (n1 : Int) < 256 := by have := b1.isLt; omega
  have n10 : (0 : Int) ≤ (n1 : Int) := by omega
  have aI : (a : Int) < 16 := by omega
  have a0I : (0 : Int) ≤ (a : Int) := by omega
  have y7 : (7 : Int) = yv (7 : BitVec 8) := by decide
  have y1 : (1 : Int) = yv (1 : BitVec 8) := by decide
  have HP7 := Lib.hid (fun (w0 w : World) K D gl n F ws lim dn h => by have q := po_sector w0 w K D gl n F ws lim dn 7 7 h; rw [← y7] at q; exact q)
  have HPx := Lib.hid (fun (w0 w : World) K D gl n F ws lim dn h => po_sector w0 w K D gl n F ws lim dn b2 b2 h)
  have HPi := Lib.hid (fun (i : Nat) (hi : i < 60) (w0 w : World) K D gl n F ws lim dn h => by have q := po_sector w0 w K D gl n F ws lim dn (BitVec.ofNat 8 i) 1 h; rw [← yv_of i (by omega), ← y1] at q; exact q)
  have HS7 := Lib.hid (fun w : World => by have q := sector_any 7 7 w; rw [← y7] at q; exact q)
  have HSx := Lib.hid (fun w : World => sector_any b2 b2 w)
  have HL7 := Lib.hid (secB_length 7 7)
  have HLx := Lib.hid (secB_length b2 b2)
  have hzl : (zeroY (16 * 512)).length = 16 * 512 := List.length_replicate
  have HNW := Lib.hid (fun w1 hb => po_new w w1 16 hb (by decide) (by decide))
  generalize zeroY (16 * 512) = Z at *
  generalize secB 7 7 = S7 at *
  generalize secB b2 b2 = Sx at *
  have HLN := Lib.hid (show (putL Z (a * 512) S7).length = 16 * 512 by rw [putL_length _ _ _ (by rw [hzl, HL7.out]; omega)]; exact hzl)
  have HS1 := Lib.hid (secY_same Z S7 a 16 hzl ha16 HL7.out)
  obtain ⟨F1, hF1⟩ : ∃ y, putL Z (a * 512) S7 = y := ⟨_, rfl⟩
  have HF1 := Lib.hid hF1
  rw [hF1] at HLN HS1
  have HBS := Lib.hid b0
  have HE0 := Lib.hid e0
  have HA := Lib.hid ha16
  have lI : (len0 : Int) ≤ 140737488351232 := by omega
  clear hzl hF1 ha16 hn1 hy1 y7 y1 b0 e0 m0 ha
  go_enter Try.func6, Try.ntmps6
  go_wp2_with fail
  refine (alive6_any w).mono ?_
  rintro e w1 ⟨rfl, hb1⟩
  have HN := Lib.hid (HNW.out w1 hb1)
  have HB1 := Lib.hid hb1
  clear hb1 HNW
  by_cases hbig : 60 < len0
  · have h3 : (60 : Int) < (len0 : Int) := by omega
    go_wp2_with fail
    go_ret
    exact ⟨rfl, HB1.out⟩
  · have h3 : decide ((60 : Int) < (len0 : Int)) = false := by simp; omega
    have HLE := Lib.hid (show len0 ≤ 60 by omega)
    clear hbig
    go_wp2_with fail
    refine HN.out.mono ?_
    rintro e w2 ⟨rfl, hP2, hb2⟩
    generalize w1.heap.size + 2 = D at *
    generalize w1.heap.size = gl at *
    have HC2 := Lib.hid (HP7.out _ _ _ _ _ _ _ _ _ _ hP2)
    clear hP2 hb2 HN h3
    go_wp2_with fail
    refine HC2.out.mono ?_
    rintro e w3 ⟨rfl, hA3, hP3, _⟩
    have HC3 := Lib.hid (po_write w w3 _ D gl 16 a _ 512 Z S7 [] hP3 HA.out hA3 HL7.out (by simp))
    clear hA3 hP3 HC2
    generalize w2.heap.size = X2 at *
    go_wp2_with fail
    refine HC3.out.mono ?_
    rintro e w4 ⟨rfl, hP4, _⟩
    have HC4 := Lib.hid (po_flush w w4 _ D gl 16 Z _ hP4 (by simp))
    clear hP4 HC3
    go_wp2_with fail
    refine HC4.out.mono ?_
    rintro e w5 ⟨rfl, hP5, _⟩
    have hP5 : PO w w5 _ D gl 16 (putL Z (a * 512) S7) [] (-1) false := hP5
    rw [HF1.out] at hP5
    have HC5 := Lib.hid (HPx.out _ _ _ _ _ _ _ _ _ _ hP5)
    clear hP5 HC4
    go_wp2_with fail
    refine HC5.out.mono ?_
    rintro e w6 ⟨rfl, hA6, hP6, _⟩
    have HC6 := Lib.hid (po_write w w6 _ D gl 16 a _ 512 F1 Sx [] hP6 HA.out hA6 HLx.out (by simp))
    clear hA6 hP6 HC5
    generalize w5.heap.size = X5 at *
    go_wp2_with fail
    refine HC6.out.mono ?_
    rintro e w7 ⟨rfl, hP7, _⟩
    have HP := Lib.hid (show PO w w7 _ D gl 16 F1 [(a, Sx)] (-1) false from hP7)
    clear hP7 HC6
    go_wp2_with fail
    go_loopw [46] (fun v46 wr => ∃ i : Nat, i ≤ len0 ∧ v46 = .int .i64 (i : Nat) ∧ ∃ K ws, PO w wr K D gl 16 F1 ((a, Sx) :: ws) (-1) false ∧ ws.length ≤ i ∧ ∀ p ∈ ws, p.1 ≠ a) (fun v _ => len0 - (intOf v).toNat)
    case atStart => exact ⟨0, by omega, rfl, _, [], HP.out, by simp, fun p hp => by cases hp⟩
    case round =>
      obtain ⟨i, hi, rfl, K, ws, hP, hws, hne⟩ := hrel
      by_cases hlt : i < len0
      · obtain ⟨g0, o0, rfl, _, hc⟩ := (HBS.out.kept hP.bel).cellY HE0.out hlt
        obtain ⟨m, hm⟩ : ∃ m : Nat, (x0.getD i 0).toNat = m := ⟨_, rfl⟩
        have hmy : yv (x0.getD i 0) = (m : Int) := by rw [yv_nat, hm]
        rw [hmy] at hc
        obtain ⟨q, hq⟩ : ∃ q : Nat, m % 16 = q := ⟨_, rfl⟩
        have mI : (m : Int) < 256 := by have := (x0.getD i 0).isLt; omega
        have hqI : (m : Int) % 16 = (q : Int) := by omega
        have HQ := Lib.hid (show q < 16 by omega)
        have qI : (q : Int) < 16 := by omega
        have m0I : (0 : Int) ≤ (m : Int) := by omega
        have q0I : (0 : Int) ≤ (q : Int) := by omega
        have iI : (i : Int) < (len0 : Int) := by omega
        have i0 : (0 : Int) ≤ (i : Int) := by omega
        have i6 : (i : Int) < 60 := by have := HLE.out; omega
        have HWS := Lib.hid hws
        have HNE := Lib.hid hne
        have HLT := Lib.hid hlt
        by_cases hqa : q = a
        · have hqb : ((q : Int) == (a : Int)) = true := by simp [hqa]
          have HPP := Lib.hid hP
          clear hP hi hlt hws hne hm hmy hq hqa
          go_wp2_with fail
          go_roundw
          case rel => exact ⟨i + 1, by have := HLT.out; omega, by go_num, K, ws, HPP.out, by have := HWS.out; omega, HNE.out⟩
          case measure => simp [intOf]; have := HLT.out; omega
        · have hqb : ((q : Int) == (a : Int)) = false := by simp; omega
          have HQA := Lib.hid hqa
          have HSC := Lib.hid (HPi.out i (by have := HLE.out; omega) _ _ _ _ _ _ _ _ _ _ hP)
          clear hP hi hlt hws hne hm hmy hq hqa
          go_wp2_with fail
          refine HSC.out.mono ?_
          rintro e w8 ⟨rfl, hA8, hP8, _⟩
          have HC := Lib.hid (po_write w w8 _ D gl 16 q _ 512 F1 _ _ hP8 HQ.out hA8 (secB_length _ _) (by have := HWS.out; have := HLE.out; have := HLT.out; simp; omega))
          clear hA8 hP8 HSC
          generalize wr.heap.size = X8 at *
          go_wp2_with fail
          refine HC.out.mono ?_
          rintro e w9 ⟨rfl, hP9, _⟩
          have HP9 := Lib.hid hP9
          clear hP9 HC
          go_wp2_with fail
          go_roundw
          case rel => exact ⟨i + 1, by have := HLT.out; omega, by go_num, _, ws ++ [(q, _)], HP9.out, by have := HWS.out; simp; omega, fun p hp => by
            rcases List.mem_append.1 hp with hp | hp
            · exact HNE.out p hp
            · simp only [List.mem_cons, List.not_mem_nil, or_false] at hp
              subst hp
              exact HQA.out⟩
          case measure => simp [intOf]; have := HLT.out; omega
      · have hbv : decide (i < len0) = false := by simp; omega
        have HWS := Lib.hid (show ws.length ≤ 60 by have := HLE.out; omega)
        have HRD := Lib.hid (read_keep F1 Sx a ws hne)
        have HR := Lib.hid (po_read w wr _ D gl 16 a _ _ _ hP HA.out)
        clear hP hi hlt hws hne
        go_wp2_with fail
        refine HR.out.mono ?_
        rintro e w8 ⟨⟨rfl, hA8, _, hb8⟩, hP8⟩
        rw [HRD.out] at hA8
        have HX8 := Lib.hid hA8
        have HK := Lib.hid (po_peek w w8 _ D gl 16 a _ _ _ _ hP8 HA.out)
        clear hA8 hP8 hb8 HR
        generalize wr.heap.size = X at *
        go_wp2_with fail
        refine HK.out.mono ?_
        rintro e w9 ⟨⟨rfl, hA9, _, hb9⟩, hP9⟩
        rw [HS1.out] at hA9
        have HX9 := Lib.hid (HX8.out.below hb9 (zlt HX8.out))
        have HY9 := Lib.hid hA9
        have HC := Lib.hid (po_crash w w9 _ D gl 16 0 0 _ _ _ _ hP9 (by have := HWS.out; simp; omega) (by decide))
        clear hA9 hP9 hb9 HK HX8
        generalize w8.heap.size = Y at *
        go_wp2_with fail
        refine HC.out.mono ?_
        rintro e w10 ⟨rfl, hP10, hS10⟩
        rw [List.length_cons, crash_first] at hP10
        have hG := secY_half F1 (Sx.take 256) a 16 HLN.out HA.out (by rw [List.length_take, HLx.out]; rfl)
        rw [HS1.out] at hG
        have HG := Lib.hid hG
        have HX10 := Lib.hid (show ArrY w10 X 74 Sx from (hS10 X (by simp)).trans HX9.out)
        have HY10 := Lib.hid (show ArrY w10 Y 74 S7 from (hS10 Y (by simp)).trans HY9.out)
        have HR := Lib.hid (po_read w w10 _ D gl 16 a _ _ _ hP10 HA.out)
        clear hP10 hS10 HC HX9 HY9 hG
        go_wp2_with fail
        refine HR.out.mono ?_
        rintro e wz ⟨⟨rfl, hT, _, hbz⟩, hPz⟩
        have hT : ArrY wz w10.heap.size 74 (secY (putL F1 (a * 512) (Sx.take 256)) a) := hT
        rw [HG.out] at hT
        have hBz := hPz.bel
        have hX := HX10.out.below hbz (zlt HX10.out)
        have hY := HY10.out.below hbz (zlt HY10.out)
        have HTL := Lib.hid (show (Sx.take 256 ++ S7.drop 256).length = 512 by rw [List.length_append, List.length_take, List.length_drop, HLx.out, HL7.out]; rfl)
        have HTE := Lib.hid (show (((Sx.take 256 ++ S7.drop 256).drop 0).take 256).map yv = ((Sx.drop 0).take 256).map yv by
          rw [List.drop_zero, List.drop_zero, List.take_left' (by rw [List.length_take, HLx.out]; rfl)])
        have HTF := Lib.hid (show (((Sx.take 256 ++ S7.drop 256).drop 256).take 256).map yv = ((S7.drop 256).take 256).map yv by
          rw [List.drop_left' (by rw [List.length_take, HLx.out]; rfl)])
        generalize Sx.take 256 ++ S7.drop 256 = TT at *
        clear hPz hbz HR HX10 HY10 HG
        generalize w10.heap.size = T at *
        have hs1 := slice_lo T
        have hs2 := slice_lo X
        have hs3 := slice_hi T
        have hs4 := slice_hi Y
        go_upto_region 22 with fail
        try simp only [Act.put]
        refine wp_region_noPanic ?_
        refine wp_region_held_drew (S := fun _ => True) (by kernel_rfl) trivial (fun hHeld => ?_)
        refine wpAnyH_take (i := 0) (oi := ⟨some 85, _, _, _, _, _⟩) (v := ?_) rfl (by kernel_rfl) (by decide +kernel) (by decide +kernel) (fun _ _ _ h => h) (Or.inl ⟨by rfl, ?_⟩) (by assumption) ?_
        rotate_left 1
        · (intro w' hSw; go_simp; try with_reducible rfl)
        try simp only [Act.put, List.setIfInBounds_toArray, List.set_cons_zero, List.set_cons_succ]
        refine wpAnyH_take (i := 1) (oi := ⟨some 86, _, _, _, _, _⟩) (v := ?_) rfl (by kernel_rfl) (by decide +kernel) (by decide +kernel) (fun _ _ _ h => h) (Or.inl ⟨by rfl, ?_⟩) (by assumption) ?_
        rotate_left 1
        · (intro w' hSw; go_simp; try with_reducible rfl)
        try simp only [Act.put, List.setIfInBounds_toArray, List.set_cons_zero, List.set_cons_succ]
        refine wpAnyH_take (i := 2) (oi := ⟨some 87, _, _, _, _, _⟩) (v := ?_) rfl (by kernel_rfl) (by decide +kernel) (by decide +kernel) (fun _ _ _ h => h) (Or.inl ⟨by rfl, ?_⟩) (by assumption) ?_
        rotate_left 1
        · (intro w' hSw; go_simp; try with_reducible rfl)
        try simp only [Act.put, List.setIfInBounds_toArray, List.set_cons_zero, List.set_cons_succ]
        refine wpAnyH_take (i := 3) (oi := ⟨some 88, _, _, _, _, _⟩) (v := ?_) rfl (by kernel_rfl) (by decide +kernel) (by decide +kernel) (fun _ _ _ h => h) (Or.inl ⟨by rfl, ?_⟩) (by assumption) ?_
        rotate_left 1
        · (intro w' hSw; go_simp; try with_reducible rfl)
        try simp only [Act.put, List.setIfInBounds_toArray, List.set_cons_zero, List.set_cons_succ]
        refine wpAnyH_take (i := 4) (oi := ⟨some 89, _, _, _, _, _⟩) (v := ?_) rfl (by kernel_rfl) (by decide +kernel) (by decide +kernel) (fun _ _ _ h => h) (Or.inl ⟨by rfl, ?_⟩) (by assumption) ?_
        rotate_left 1
        · (intro w' hSw; go_simp; try with_reducible rfl)
        try simp only [Act.put, List.setIfInBounds_toArray, List.set_cons_zero, List.set_cons_succ]
        refine wpAnyH_take (i := 5) (oi := ⟨some 90, _, _, _, _, _⟩) (v := ?_) rfl (by kernel_rfl) (by decide +kernel) (by decide +kernel) (fun _ _ _ h => h) (Or.inl ⟨by rfl, ?_⟩) (by assumption) ?_
        rotate_left 1
        · (intro w' hSw; go_simp; try with_reducible rfl)
        try simp only [Act.put, List.setIfInBounds_toArray, List.set_cons_zero, List.set_cons_succ]
        refine wpAnyH_take (i := 6) (oi := ⟨some 91, _, _, _, _, _⟩) (v := ?_) rfl (by kernel_rfl) (by decide +kernel) (by decide +kernel) (fun _ _ _ h => h) (Or.inl ⟨by rfl, ?_⟩) (by assumption) ?_
        rotate_left 1
        · (intro w' hSw; go_simp; try with_reducible rfl)
        try simp only [Act.put, List.setIfInBounds_toArray, List.set_cons_zero, List.set_cons_succ]
        refine wpAnyH_take (i := 7) (oi := ⟨some 92, _, _, _, _, _⟩) (v := ?_) rfl (by kernel_rfl) (by decide +kernel) (by decide +kernel) (fun _ _ _ h => h) (Or.inl ⟨by rfl, ?_⟩) (by assumption) ?_
        rotate_left 1
        · (intro w' hSw; go_simp; try with_reducible rfl)
        try simp only [Act.put, List.setIfInBounds_toArray, List.set_cons_zero, List.set_cons_succ]
        refine wpAnyH_take (i := 8) (oi := ⟨some 93, _, _, _, _, _⟩) (v := ?_) rfl (by kernel_rfl) (by decide +kernel) (by decide +kernel) (fun _ _ _ h => h) (Or.inl ⟨by rfl, ?_⟩) (by assumption) ?_
        rotate_left 1
        · (intro w' hSw; go_simp; try with_reducible rfl)
        try simp only [Act.put, List.setIfInBounds_toArray, List.set_cons_zero, List.set_cons_succ]
        refine wpAnyH_take (i := 9) (oi := ⟨some 94, _, _, _, _, _⟩) (v := ?_) rfl (by kernel_rfl) (by decide +kernel) (by decide +kernel) (fun _ _ _ h => h) (Or.inl ⟨by rfl, ?_⟩) (by assumption) ?_
        rotate_left 1
        · (intro w' hSw; go_simp; try with_reducible rfl)
        try simp only [Act.put, List.setIfInBounds_toArray, List.set_cons_zero, List.set_cons_succ]
        refine wpAnyH_take (i := 10) (oi := ⟨some 95, _, _, _, _, _⟩) (v := ?_) rfl (by kernel_rfl) (by decide +kernel) (by decide +kernel) (fun _ _ _ h => h) (Or.inl ⟨by rfl, ?_⟩) (by assumption) ?_
        rotate_left 1
        · (intro w' hSw; go_simp; try with_reducible rfl)
        try simp only [Act.put, List.setIfInBounds_toArray, List.set_cons_zero, List.set_cons_succ]
        refine wpAnyH_take (i := 11) (oi := ⟨some 96, _, _, _, _, _⟩) (v := ?_) rfl (by kernel_rfl) (by decide +kernel) (by decide +kernel) (fun _ _ _ h => h) (Or.inl ⟨by rfl, ?_⟩) (by assumption) ?_
        rotate_left 1
        · (intro w' hSw; go_simp; try with_reducible rfl)
        try simp only [Act.put, List.setIfInBounds_toArray, List.set_cons_zero, List.set_cons_succ]
        refine wpAnyH_take (i := 12) (oi := ⟨some 97, _, _, _, _, _⟩) (v := ?_) rfl (by kernel_rfl) (by decide +kernel) (by decide +kernel) (fun _ _ _ h => h) (Or.inl ⟨by rfl, ?_⟩) (by assumption) ?_
        rotate_left 1
        · (intro w' hSw; go_simp; try with_reducible rfl)
        try simp only [Act.put, List.setIfInBounds_toArray, List.set_cons_zero, List.set_cons_succ]
        refine wpAnyH_take (i := 13) (oi := ⟨some 98, _, _, _, _, _⟩) (v := ?_) rfl (by kernel_rfl) (by decide +kernel) (by decide +kernel) (fun _ _ _ h => h) (Or.inl ⟨by rfl, ?_⟩) (by assumption) ?_
        rotate_left 1
        · (intro w' hSw; go_simp; try with_reducible rfl)
        try simp only [Act.put, List.setIfInBounds_toArray, List.set_cons_zero, List.set_cons_succ]
        refine wpAnyH_ready (rs := [14]) (by decide +kernel) (by simp) ?_
        refine AllReadyH.cons rfl (fun K hK => ?_) AllReadyH.nil
        go_simp
        go_at_call 32
        refine (HSx.out wz.drew).mono ?_
        rintro e wa ⟨rfl, hA, hb⟩
        have HSA := Lib.hid (same_eq wa _ _ (Sx.map yv) (BS.of_arr0 (n := 512) (cap := 512) ((show ArrY wz.drew X _ Sx from hX).below hb (zlt hX)) HLx.out) (BS.of_arr0 (n := 512) (cap := 512) hA HLx.out))
        have hYa := (show ArrY wz.drew Y _ S7 from hY).below hb (zlt hY)
        have hTa := (show ArrY wz.drew T _ TT from hT).below hb (zlt hT)
        have hXa := (show ArrY wz.drew X _ Sx from hX).below hb (zlt hX)
        have hBa := hBz.drew.trans (hb.mono (show w.heap.size ≤ wz.drew.heap.size from hBz.size))
        clear hA hb hX hY hT hBz
        go_wp2_with fail
        refine hK.out _ _ trivial (fun hHeld => ?_)
        clear hK K
        try simp only [Act.put, List.setIfInBounds_toArray, List.set_cons_zero, List.set_cons_succ]
        refine wpAnyH_ready (rs := [15]) (by decide +kernel) (by simp) ?_
        refine AllReadyH.cons rfl (fun K hK => ?_) AllReadyH.nil
        go_simp
        go_at_call 27
        refine (HSA.out).mono ?_
        rintro e wb ⟨rfl, rfl⟩
        clear HSA
        go_wp2_with fail
        refine hK.out _ _ trivial (fun hHeld => ?_)
        clear hK K
        try simp only [Act.put, List.setIfInBounds_toArray, List.set_cons_zero, List.set_cons_succ]
        refine wpAnyH_take (i := 16) (oi := ⟨some 101, _, _, _, _, _⟩) (v := ?_) rfl (by kernel_rfl) (by decide +kernel) (by decide +kernel) (fun _ _ _ h => h) (Or.inl ⟨by rfl, ?_⟩) (by assumption) ?_
        rotate_left 1
        · (intro w' hSw; go_simp; try with_reducible rfl)
        try simp only [Act.put, List.setIfInBounds_toArray, List.set_cons_zero, List.set_cons_succ]
        refine wpAnyH_take (i := 17) (oi := ⟨some 102, _, _, _, _, _⟩) (v := ?_) rfl (by kernel_rfl) (by decide +kernel) (by decide +kernel) (fun _ _ _ h => h) (Or.inl ⟨by rfl, ?_⟩) (by assumption) ?_
        rotate_left 1
        · (intro w' hSw; go_simp; try with_reducible rfl)
        try simp only [Act.put, List.setIfInBounds_toArray, List.set_cons_zero, List.set_cons_succ]
        refine wpAnyH_take (i := 18) (oi := ⟨some 103, _, _, _, _, _⟩) (v := ?_) rfl (by kernel_rfl) (by decide +kernel) (by decide +kernel) (fun _ _ _ h => h) (Or.inl ⟨by rfl, ?_⟩) (by assumption) ?_
        rotate_left 1
        · (intro w' hSw; go_simp; try with_reducible rfl)
        try simp only [Act.put, List.setIfInBounds_toArray, List.set_cons_zero, List.set_cons_succ]
        refine wpAnyH_ready (rs := [19]) (by decide +kernel) (by simp) ?_
        refine AllReadyH.cons rfl (fun K hK => ?_) AllReadyH.nil
        go_simp
        go_at_call 32
        refine (HS7.out _).mono ?_
        rintro e wc ⟨rfl, hA, hb⟩
        have HSA := Lib.hid (same_eq wc _ _ (S7.map yv) (BS.of_arr0 (n := 512) (cap := 512) (hYa.below hb (zlt hYa)) HL7.out) (BS.of_arr0 (n := 512) (cap := 512) hA HL7.out))
        have hYc := hYa.below hb (zlt hYa)
        have hTc := hTa.below hb (zlt hTa)
        have hXc := hXa.below hb (zlt hXa)
        have hBc := hBa.trans (hb.mono hBa.size)
        clear hA hb hXa hYa hTa hBa
        go_wp2_with fail
        refine hK.out _ _ trivial (fun hHeld => ?_)
        clear hK K
        try simp only [Act.put, List.setIfInBounds_toArray, List.set_cons_zero, List.set_cons_succ]
        refine wpAnyH_ready (rs := [20]) (by decide +kernel) (by simp) ?_
        refine AllReadyH.cons rfl (fun K hK => ?_) AllReadyH.nil
        go_simp
        go_at_call 27
        refine (HSA.out).mono ?_
        rintro e wd ⟨rfl, rfl⟩
        clear HSA
        go_wp2_with fail
        refine hK.out _ _ trivial (fun hHeld => ?_)
        clear hK K
        try simp only [Act.put, List.setIfInBounds_toArray, List.set_cons_zero, List.set_cons_succ]
        refine wpAnyH_take (i := 21) (oi := ⟨some 106, _, _, _, _, _⟩) (v := ?_) rfl (by kernel_rfl) (by decide +kernel) (by decide +kernel) (fun _ _ _ h => h) (Or.inl ⟨by rfl, ?_⟩) (by assumption) ?_
        rotate_left 1
        · (intro w' hSw; go_simp; try with_reducible rfl)
        try simp only [Act.put, List.setIfInBounds_toArray, List.set_cons_zero, List.set_cons_succ]
        refine wpAnyH_take (i := 22) (oi := ⟨some 107, _, _, _, _, _⟩) (v := ?_) rfl (by kernel_rfl) (by decide +kernel) (by decide +kernel) (fun _ _ _ h => h) (Or.inl ⟨by rfl, ?_⟩) (by assumption) ?_
        rotate_left 1
        · (intro w' hSw; go_simp; try with_reducible rfl)
        try simp only [Act.put, List.setIfInBounds_toArray, List.set_cons_zero, List.set_cons_succ]
        refine wpAnyH_take (i := 23) (oi := ⟨some 108, _, _, _, _, _⟩) (v := ?_) rfl (by kernel_rfl) (by decide +kernel) (by decide +kernel) (fun _ _ _ h => h) (Or.inl ⟨by rfl, ?_⟩) (by assumption) ?_
        rotate_left 1
        · (intro w' hSw; go_simp; try with_reducible rfl)
        try simp only [Act.put, List.setIfInBounds_toArray, List.set_cons_zero, List.set_cons_succ]
        refine wpAnyH_take (i := 24) (oi := ⟨some 109, _, _, _, _, _⟩) (v := ?_) rfl (by kernel_rfl) (by decide +kernel) (by decide +kernel) (fun _ _ _ h => h) (Or.inl ⟨by rfl, ?_⟩) (by assumption) ?_
        rotate_left 1
        · (intro w' hSw; go_simp; try with_reducible rfl)
        try simp only [Act.put, List.setIfInBounds_toArray, List.set_cons_zero, List.set_cons_succ]
        refine wpAnyH_take (i := 25) (oi := ⟨some 110, _, _, _, _, _⟩) (v := ?_) rfl (by kernel_rfl) (by decide +kernel) (by decide +kernel) (fun _ _ _ h => h) (Or.inl ⟨by rfl, ?_⟩) (by assumption) ?_
        rotate_left 1
        · (intro w' hSw; go_simp; try with_reducible rfl)
        try simp only [Act.put, List.setIfInBounds_toArray, List.set_cons_zero, List.set_cons_succ]
        refine wpAnyH_take (i := 26) (oi := ⟨some 111, _, _, _, _, _⟩) (v := ?_) rfl (by kernel_rfl) (by decide +kernel) (by decide +kernel) (fun _ _ _ h => h) (Or.inl ⟨by rfl, ?_⟩) (by assumption) ?_
        rotate_left 1
        · (intro w' hSw; go_simp; try with_reducible rfl)
        try simp only [Act.put, List.setIfInBounds_toArray, List.set_cons_zero, List.set_cons_succ]
        have HSA := Lib.hid (same_eq wd _ _ _ (BS.of_arr (o := 0) (n := 256) (cap := 512) hTc (by rw [HTL.out]; decide)) (by rw [HTE.out]; exact BS.of_arr (o := 0) (n := 256) (cap := 512) hXc (by rw [HLx.out]; decide)))
        refine wpAnyH_ready (rs := [27]) (by decide +kernel) (by simp) ?_
        refine AllReadyH.cons rfl (fun K hK => ?_) AllReadyH.nil
        go_simp
        go_at_call 27
        refine (HSA.out).mono ?_
        rintro e we ⟨rfl, rfl⟩
        clear HSA
        go_wp2_with fail
        refine hK.out _ _ trivial (fun hHeld => ?_)
        clear hK K
        try simp only [Act.put, List.setIfInBounds_toArray, List.set_cons_zero, List.set_cons_succ]
        refine wpAnyH_take (i := 28) (oi := ⟨some 113, _, _, _, _, _⟩) (v := ?_) rfl (by kernel_rfl) (by decide +kernel) (by decide +kernel) (fun _ _ _ h => h) (Or.inl ⟨by rfl, ?_⟩) (by assumption) ?_
        rotate_left 1
        · (intro w' hSw; go_simp; try with_reducible rfl)
        try simp only [Act.put, List.setIfInBounds_toArray, List.set_cons_zero, List.set_cons_succ]
        refine wpAnyH_take (i := 29) (oi := ⟨some 114, _, _, _, _, _⟩) (v := ?_) rfl (by kernel_rfl) (by decide +kernel) (by decide +kernel) (fun _ _ _ h => h) (Or.inl ⟨by rfl, ?_⟩) (by assumption) ?_
        rotate_left 1
        · (intro w' hSw; go_simp; try with_reducible rfl)
        try simp only [Act.put, List.setIfInBounds_toArray, List.set_cons_zero, List.set_cons_succ]
        refine wpAnyH_take (i := 30) (oi := ⟨some 115, _, _, _, _, _⟩) (v := ?_) rfl (by kernel_rfl) (by decide +kernel) (by decide +kernel) (fun _ _ _ h => h) (Or.inl ⟨by rfl, ?_⟩) (by assumption) ?_
        rotate_left 1
        · (intro w' hSw; go_simp; try with_reducible rfl)
        try simp only [Act.put, List.setIfInBounds_toArray, List.set_cons_zero, List.set_cons_succ]
        refine wpAnyH_take (i := 31) (oi := ⟨some 116, _, _, _, _, _⟩) (v := ?_) rfl (by kernel_rfl) (by decide +kernel) (by decide +kernel) (fun _ _ _ h => h) (Or.inl ⟨by rfl, ?_⟩) (by assumption) ?_
        rotate_left 1
        · (intro w' hSw; go_simp; try with_reducible rfl)
        try simp only [Act.put, List.setIfInBounds_toArray, List.set_cons_zero, List.set_cons_succ]
        refine wpAnyH_take (i := 32) (oi := ⟨some 117, _, _, _, _, _⟩) (v := ?_) rfl (by kernel_rfl) (by decide +kernel) (by decide +kernel) (fun _ _ _ h => h) (Or.inl ⟨by rfl, ?_⟩) (by assumption) ?_
        rotate_left 1
        · (intro w' hSw; go_simp; try with_reducible rfl)
        try simp only [Act.put, List.setIfInBounds_toArray, List.set_cons_zero, List.set_cons_succ]
        refine wpAnyH_take (i := 33) (oi := ⟨some 118, _, _, _, _, _⟩) (v := ?_) rfl (by kernel_rfl) (by decide +kernel) (by decide +kernel) (fun _ _ _ h => h) (Or.inl ⟨by rfl, ?_⟩) (by assumption) ?_
        rotate_left 1
        · (intro w' hSw; go_simp; try with_reducible rfl)
        try simp only [Act.put, List.setIfInBounds_toArray, List.set_cons_zero, List.set_cons_succ]
        have HSA := Lib.hid (same_eq we _ _ _ (BS.of_arr (o := 256) (n := 256) (cap := 256) hTc (by rw [HTL.out]; decide)) (by rw [HTF.out]; exact BS.of_arr (o := 256) (n := 256) (cap := 256) hYc (by rw [HL7.out]; decide)))
        refine wpAnyH_ready (rs := [34]) (by decide +kernel) (by simp) ?_
        refine AllReadyH.cons rfl (fun K hK => ?_) AllReadyH.nil
        go_simp
        go_at_call 27
        refine (HSA.out).mono ?_
        rintro e wf ⟨rfl, rfl⟩
        clear HSA
        go_wp2_with fail
        refine hK.out _ _ trivial (fun hHeld => ?_)
        clear hK K
        try simp only [Act.put, List.setIfInBounds_toArray, List.set_cons_zero, List.set_cons_succ]
        refine wpAnyH_take (i := 35) (oi := ⟨some 120, _, _, _, _, _⟩) (v := ?_) rfl (by kernel_rfl) (by decide +kernel) (by decide +kernel) (fun _ _ _ h => h) (Or.inl ⟨by rfl, ?_⟩) (by assumption) ?_
        rotate_left 1
        · (intro w' hSw; go_simp; try with_reducible rfl)
        try simp only [Act.put, List.setIfInBounds_toArray, List.set_cons_zero, List.set_cons_succ]
        refine wpAnyH_take (i := 36) (oi := ⟨some 6, _, _, _, _, _⟩) (v := ?_) rfl (by kernel_rfl) (by decide +kernel) (by decide +kernel) (fun _ _ _ h => h) (Or.inl ⟨by rfl, ?_⟩) (by assumption) ?_
        rotate_left 1
        · (intro w' hSw; go_simp; try with_reducible rfl)
        try simp only [Act.put, List.setIfInBounds_toArray, List.set_cons_zero, List.set_cons_succ]
        clear hHeld
        refine wpAnyH_done (by decide +kernel) ?_ _
        refine NoPanic.normal ?_
        go_wp2_with fail
        go_ret
        exact ⟨rfl, hBc⟩
set_option maxRecDepth 100000 in
theorem lifted (os : Os) (started : os.Started) (H : Type) (enc : TypeId × Value → H) :
    ReturnsInHanded {} Try.checked os 6 .any (Rows.devReadsSpec.pre6 enc Try.prog Try.f6 Rows.devReadsRow.domain false) (Rows.devReadsSpec.post enc Try.prog Try.f6 false true false false) := by
  refine returnsInHanded_of_change_sized (C := Try.checked) own started (by kernel_rfl) Try.func6
    (ChangeSpec.witness6 (enc := enc) (C := Try.checked) false ⟨#[], #[.slice none 0 0, .int .u8 0, .int .u8 0], []⟩ 8 (by kernel_rfl) (by kernel_rfl) (by kernel_rfl) (by kernel_rfl)) ?_
  intro W base args ds gs before hval0 hW hcnd hsz0 _
  have hsz : (DataW.weightsEach Try.prog (Try.f6.params.toList ++ Rows.devReadsSpec.plain.varTypes Try.prog) (ds ++ gs)).all (· ≤ reachBytes) = true := hsz0
  clear hsz0
  have hval : ∀ (j : Nat) t v, Try.f6.params[j]? = some t → args[j]? = some v → Value.okWide Try.prog W .any base t v := hval0
  have hW' := hW
  obtain ⟨p, q, hA0, hV, rfl, hfz, hnd⟩ := hW
  have hA : DataW.TrodAll enc Try.prog W 0 (fun _ => true) true Try.f6.params.toList args.toList ds p := hA0
  rw [Try.params6] at hA hval hsz
  obtain ⟨v0, vs0, d0, ds0, p0, q0, hargs, rfl, rfl, h0, r0⟩ := trodAll_cons hA
  obtain ⟨v1, vs1, d1, ds1, p1, q1, rfl, rfl, rfl, h1, r1⟩ := trodAll_cons r0
  obtain ⟨v2, vs2, d2, ds2, p2, q2, rfl, rfl, rfl, h2, r2⟩ := trodAll_cons r1
  obtain ⟨rfl, rfl, rfl⟩ := trodAll_nil r2
  obtain rfl : args = #[v0, v1, v2] := by cases args; simp_all
  obtain ⟨rfl, rfl⟩ := trodVars_none hV
  have k0 := h0
  have lt0 : ∀ x ∈ p0, x.block < W.heap.size := by obtain ⟨m, hm⟩ := k0; exact DataW.trod_lt m _ _ _ hm
  obtain ⟨a0, len0, cap0, l0, rfl, e0, b0, m0, n0⟩ := open_yslice (j := 0) (hval 0 36 v0 rfl rfl) h0 hsz rfl rfl
  obtain ⟨a1, rfl, rfl, rfl, w1⟩ := open_int Try.underlying5 (hval 1 5 v1 rfl rfl) h1
  obtain ⟨b1, rfl⟩ := byte_of w1
  obtain ⟨a2, rfl, rfl, rfl, w2⟩ := open_int Try.underlying5 (hval 2 5 v2 rfl rfl) h2
  obtain ⟨b2, rfl⟩ := byte_of w2
  clear hA0 hval0
  simp only [List.append_nil] at hW'
  refine (walk W a0 len0 cap0 (toY l0) e0 b0 m0 n0 b1 b2).mono fun e W' ⟨he, bel⟩ => ?_
  subst he
  exact ⟨_, rfl, _, _, _, [], _, [], hW', trodAll_mk1 (shut_bool Try.underlying4 _), (trodAll_cons_mk (Below.trod laidOut (by kernel_rfl) (of_decide_eq_true (by kernel_rfl)) k0 bel lt0) (trodAll_cons_mk (shut_int Try.underlying5 w1) (trodAll_cons_mk (shut_int Try.underlying5 w2) trodAll_mk0))), rfl, bel.frame _, fun h => by cases h⟩

theorem over : Rows.devReadsRow.holds Try.pinned (OpenSpec.ofChange Rows.devReadsSpec) :=
  OpenClaim.holds_of_wide 6 Try.f6 rfl rfl rfl rfl rfl rfl rfl ⟨rfl, rfl, rfl, rfl, rfl⟩ rfl rfl rfl rfl rfl (by kernel_rfl) Try.func6 (by kernel_rfl)
    (of_decide_eq_true (by kernel_rfl)) (by unfold Func.isWrapper; first | (rw [if_pos (by decide +kernel)]; kernel_rfl) | (rw [if_neg (by decide +kernel)]; exact ⟨rfl, rfl⟩))
    (fun os started H enc _ => lifted os started H enc)

/-- The statement. -/
theorem proved : Rows.DevReadsSaid := over
#print axioms proved
end Go.Proofs.Ytmfpdbmohebodaa.devReads
