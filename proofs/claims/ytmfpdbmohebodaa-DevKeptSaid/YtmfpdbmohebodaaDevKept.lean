/-
  'DevKept' returns true at every input, and each argument reads behind the call as it read before. Conditions: none.
-/
import Derived.Test.YtmfpdbmohebodaaRows
import Derived.Test.YtmfpdbmohebodaaYLaid
import Derived.Test.YtmfpdbmohebodaaPTwo
namespace Go.Proofs.Ytmfpdbmohebodaa.devKept
open Go.ChangeShapes Go.WideShapes Go.ChangeAt Go.RowKit
set_option linter.unusedVariables false


set_option maxRecDepth 100000 in
set_option maxHeartbeats 3200000 in
theorem walk (w : World) (a0 : Option Addr) (len0 cap0 : Nat) (x0 : List (BitVec 8)) (e0 : x0.length = len0) (b0 : BS w (.slice a0 len0 cap0) (x0.map yv)) (m0 : len0 ≤ cap0) (n0 : cap0 ≤ 140737488351232) (al : Bool) :
    Calls Try.prog 5 #[.slice a0 len0 cap0, .bool al] w fun e w' => e = .returned (.bool true) ∧ Below w.heap.size w w' := by
  have HPi := Lib.hid (fun (i : Nat) (hi : i < 100) (w : World) => by have q := sector_any (BitVec.ofNat 8 i) (BitVec.ofNat 8 (i + 1)) w; rw [← yv_small i (by omega), ← yv_small (i + 1) (by omega)] at q; rw [show ((i + 1 : Nat) : Int) = (i : Int) + 1 by omega] at q; exact q)
  have HNW := Lib.hid (fun w1 hb => po_new w w1 16 hb (by decide) (by decide))
  have HNV := Lib.hid (fun w1 => po_new w1 w1 16 (Below.refl _ _) (by decide) (by decide))
  generalize zeroY (16 * 512) = Z at *
  have HBS := Lib.hid b0
  have HE0 := Lib.hid e0
  have lI : (len0 : Int) ≤ 140737488351232 := by omega
  clear b0 e0 m0
  go_enter Try.func5, Try.ntmps5
  go_wp2_with fail
  refine (alive6_any w).mono ?_
  rintro e w1 ⟨rfl, hb1⟩
  have HN := Lib.hid (HNW.out w1 hb1)
  have HB1 := Lib.hid hb1
  clear hb1 HNW
  by_cases hbig : 100 < len0
  · have h3 : (100 : Int) < (len0 : Int) := by omega
    go_wp2_with fail
    go_ret
    exact ⟨rfl, HB1.out⟩
  · have h3 : decide ((100 : Int) < (len0 : Int)) = false := by simp; omega
    have HLE := Lib.hid (show len0 ≤ 100 by omega)
    clear hbig
    go_wp2_with fail
    refine HN.out.mono ?_
    rintro e w2 ⟨rfl, hP2, _⟩
    have HP2 := Lib.hid hP2
    have HN2 := Lib.hid (HNV.out w2)
    generalize w1.heap.size + 2 = D at *
    generalize w1.heap.size = gl at *
    clear hP2 HN h3 HNV
    go_wp2_with fail
    refine HN2.out.mono ?_
    rintro e w2b ⟨rfl, hP2b, _⟩
    have HP := Lib.hid (PO2.mk HP2.out hP2b)
    generalize w2.heap.size + 2 = E at *
    generalize w2.heap.size = hl at *
    clear hP2b HN2 HP2
    cases al
    all_goals go_wp2_with fail
    · skip
      go_loopw [38] (fun v38 wr => ∃ i : Nat, i ≤ len0 ∧ v38 = .int .i64 (i : Nat) ∧ ∃ ws, PO2 w wr D gl 16 Z ws (-1) false E hl 16 Z [] (-1) false ∧ ws.length ≤ i) (fun v _ => len0 - (intOf v).toNat)
      case atStart => exact ⟨0, by omega, rfl, [], HP.out, by simp⟩
      case round =>
        obtain ⟨i, hi, rfl, ws, hP, hws⟩ := hrel
        by_cases hlt : i < len0
        · obtain ⟨g0, o0, rfl, _, hc⟩ := (HBS.out.kept hP.bel).cellY HE0.out hlt
          obtain ⟨m, hm⟩ : ∃ m : Nat, (x0.getD i 0).toNat = m := ⟨_, rfl⟩
          have hmy : yv (x0.getD i 0) = (m : Int) := by rw [yv_nat, hm]
          rw [hmy] at hc
          obtain ⟨q, hq⟩ : ∃ q : Nat, m % 16 = q := ⟨_, rfl⟩
          have mI : (m : Int) < 256 := by have := (x0.getD i 0).isLt; omega
          have hqI : (m : Int) % 16 = (q : Int) := by omega
          have HQ := Lib.hid (show q < 16 by omega)
          have qI : (q : Int) < 16 := by omega
          have m0I : (0 : Int) ≤ (m : Int) := by omega
          have q0I : (0 : Int) ≤ (q : Int) := by omega
          have iI : (i : Int) < (len0 : Int) := by omega
          have i0 : (0 : Int) ≤ (i : Int) := by omega
          have i6 : (i : Int) < 100 := by have := HLE.out; omega
          have HWS := Lib.hid hws
          have HLT := Lib.hid hlt
          have HIL := Lib.hid (show i < 100 by have := HLE.out; omega)
          have HSC := Lib.hid (HPi.out i (by have := HLE.out; omega) wr)
          have HPP := Lib.hid hP
          clear hP hi hlt hws hm hmy hq
          go_wp2_with fail
          refine HSC.out.mono ?_
          rintro e w8 ⟨rfl, hA8, hb8⟩
          obtain ⟨K, hP8, hbk⟩ := (HPP.out.below hb8).first
          have HBK := Lib.hid hbk
          have HC := Lib.hid (po_write w w8 K D gl 16 q _ 512 Z _ _ hP8 HQ.out hA8 (secB_length _ _) (by have := HWS.out; have := HIL.out; omega))
          clear hA8 hP8 hb8 hbk HSC HPP
          generalize wr.heap.size = X8 at *
          go_wp2_with fail
          refine HC.out.mono ?_
          rintro e w9 ⟨rfl, hP9, hS9⟩
          have HP9 := Lib.hid (HBK.out _ _ _ _ _ hP9 hS9)
          clear hP9 hS9 HC HBK
          go_wp2_with fail
          have HPE := HP9
          go_roundw
          case rel => exact ⟨i + 1, by have := HLT.out; omega, by go_num, _, HPE.out, by have := HWS.out; simp; omega⟩
          case measure => simp [intOf]; have := HLT.out; omega
        · have hbv : decide (i < len0) = false := by simp; omega
          have HWL := Lib.hid (show ws.length ≤ 100 by have := HLE.out; omega)
          obtain ⟨K, hP8, hbk⟩ := hP.first
          have HBK := Lib.hid hbk
          have HC := Lib.hid (po_crash w wr K D gl 16 0 (-1) _ _ _ _ hP8 (by have := HWL.out; omega) (by omega))
          clear hP hi hlt hws hP8 hbk
          go_wp2_with fail
          refine HC.out.mono ?_
          rintro e w3 ⟨rfl, hP3, hS3⟩
          rw [crash_none] at hP3
          obtain ⟨K2, hQ3, hbk2⟩ := (HBK.out _ _ _ _ _ hP3 hS3).swap.first
          have HBK2 := Lib.hid hbk2
          have HF := Lib.hid (po_flush w w3 K2 E hl 16 _ _ hQ3 (by simp))
          clear hP3 hS3 HC HBK hQ3 hbk2
          go_wp2_with fail
          refine HF.out.mono ?_
          rintro e w4 ⟨rfl, hP4, hS4⟩
          have hq4 := (HBK2.out _ _ _ _ _ hP4 hS4).swap
          have hq4 : PO2 w w4 D gl 16 (Z) [] (-1) false E hl 16 (Z) [] (-1) false := hq4
          generalize Z = F1 at *
          have HP4 := Lib.hid hq4
          clear hP4 hS4 HF HBK2 hq4
          go_wp2_with fail
          go_loopw [74] (fun v74 wr => ∃ j : Nat, j ≤ 16 ∧ v74 = .int .u32 (j : Nat) ∧ PO2 w wr D gl 16 F1 [] (-1) false E hl 16 F1 [] (-1) false) (fun v _ => 16 - (intOf v).toNat)
          case atStart => exact ⟨0, by omega, rfl, HP4.out⟩
          case round =>
            obtain ⟨j, hj, rfl, hP⟩ := hrel
            by_cases hlt : j < 16
            · have jI : (j : Int) < 16 := by omega
              have j0 : (0 : Int) ≤ (j : Int) := by omega
              have HLT := Lib.hid hlt
              obtain ⟨K3, hP3, _⟩ := hP.first
              have HPP := Lib.hid hP
              have HK := Lib.hid (po_peek w wr _ D gl 16 j _ _ _ _ hP3 hlt)
              clear hP hj hlt hP3
              go_wp2_with fail
              refine HK.out.mono ?_
              rintro e w5 ⟨⟨rfl, hA5, hl5, hb5⟩, _⟩
              have hP5 := HPP.out.below hb5
              obtain ⟨K4, hP6, _⟩ := hP5.swap.first
              have HP5 := Lib.hid hP5
              have HA5 := Lib.hid hA5
              have HL5 := Lib.hid hl5
              have HK2 := Lib.hid (po_peek w w5 _ E hl 16 j _ _ _ _ hP6 HLT.out)
              clear hA5 hl5 hb5 hP5 hP6 HK HPP
              generalize wr.heap.size = X at *
              go_wp2_with fail
              refine HK2.out.mono ?_
              rintro e w6 ⟨⟨rfl, hA6, _, hb6⟩, _⟩
              have HP6 := Lib.hid (HP5.out.below hb6)
              have HSE := Lib.hid (same_eq w6 _ _ _ (BS.of_arr0 (n := 512) (cap := 512) (HA5.out.below hb6 (zlt HA5.out)) HL5.out) (BS.of_arr0 (n := 512) (cap := 512) hA6 HL5.out))
              clear hA6 hb6 HK2 HP5 HA5
              generalize w5.heap.size = Y at *
              go_wp2_with fail
              refine HSE.out.mono ?_
              rintro e w7 ⟨rfl, rfl⟩
              go_wp2_with fail
              go_roundw
              case rel => exact ⟨j + 1, by have := HLT.out; omega, by go_num, HP6.out⟩
              case measure => simp [intOf]; have := HLT.out; omega
            · have hbv2 : decide ((j : Int) < 16) = false := by simp; omega
              have HB := Lib.hid hP.bel
              clear hP hj hlt
              go_wp2_with fail
              go_ret
              exact ⟨rfl, HB.out⟩
    · skip
      go_loopw [38] (fun v38 wr => ∃ i : Nat, i ≤ len0 ∧ v38 = .int .i64 (i : Nat) ∧ ∃ ws, PO2 w wr D gl 16 Z ws (-1) false E hl 16 Z ws (-1) false ∧ ws.length ≤ i) (fun v _ => len0 - (intOf v).toNat)
      case atStart => exact ⟨0, by omega, rfl, [], HP.out, by simp⟩
      case round =>
        obtain ⟨i, hi, rfl, ws, hP, hws⟩ := hrel
        by_cases hlt : i < len0
        · obtain ⟨g0, o0, rfl, _, hc⟩ := (HBS.out.kept hP.bel).cellY HE0.out hlt
          obtain ⟨m, hm⟩ : ∃ m : Nat, (x0.getD i 0).toNat = m := ⟨_, rfl⟩
          have hmy : yv (x0.getD i 0) = (m : Int) := by rw [yv_nat, hm]
          rw [hmy] at hc
          obtain ⟨q, hq⟩ : ∃ q : Nat, m % 16 = q := ⟨_, rfl⟩
          have mI : (m : Int) < 256 := by have := (x0.getD i 0).isLt; omega
          have hqI : (m : Int) % 16 = (q : Int) := by omega
          have HQ := Lib.hid (show q < 16 by omega)
          have qI : (q : Int) < 16 := by omega
          have m0I : (0 : Int) ≤ (m : Int) := by omega
          have q0I : (0 : Int) ≤ (q : Int) := by omega
          have iI : (i : Int) < (len0 : Int) := by omega
          have i0 : (0 : Int) ≤ (i : Int) := by omega
          have i6 : (i : Int) < 100 := by have := HLE.out; omega
          have HWS := Lib.hid hws
          have HLT := Lib.hid hlt
          have HIL := Lib.hid (show i < 100 by have := HLE.out; omega)
          have HSC := Lib.hid (HPi.out i (by have := HLE.out; omega) wr)
          have HPP := Lib.hid hP
          clear hP hi hlt hws hm hmy hq
          go_wp2_with fail
          refine HSC.out.mono ?_
          rintro e w8 ⟨rfl, hA8, hb8⟩
          obtain ⟨K, hP8, hbk⟩ := (HPP.out.below hb8).first
          have HBK := Lib.hid hbk
          have HC := Lib.hid (po_write w w8 K D gl 16 q _ 512 Z _ _ hP8 HQ.out hA8 (secB_length _ _) (by have := HWS.out; have := HIL.out; omega))
          clear hA8 hP8 hb8 hbk HSC HPP
          generalize wr.heap.size = X8 at *
          go_wp2_with fail
          refine HC.out.mono ?_
          rintro e w9 ⟨rfl, hP9, hS9⟩
          have HP9 := Lib.hid (HBK.out _ _ _ _ _ hP9 hS9)
          clear hP9 hS9 HC HBK
          go_wp2_with fail
          have HSC := Lib.hid (HPi.out i HIL.out w9)
          refine HSC.out.mono ?_
          rintro e wa ⟨rfl, hAa, hba⟩
          obtain ⟨K2, hPa, hbk2⟩ := (HP9.out.below hba).swap.first
          have HBK2 := Lib.hid hbk2
          have HC := Lib.hid (po_write w wa K2 E hl 16 q _ 512 Z _ _ hPa HQ.out hAa (secB_length _ _) (by have := HWS.out; have := HIL.out; omega))
          clear hAa hPa hba hbk2 HSC HP9
          generalize w9.heap.size = X9 at *
          go_wp2_with fail
          refine HC.out.mono ?_
          rintro e wb ⟨rfl, hPb, hSb⟩
          have HPE := Lib.hid (HBK2.out _ _ _ _ _ hPb hSb).swap
          clear hPb hSb HC HBK2
          go_wp2_with fail
          go_roundw
          case rel => exact ⟨i + 1, by have := HLT.out; omega, by go_num, _, HPE.out, by have := HWS.out; simp; omega⟩
          case measure => simp [intOf]; have := HLT.out; omega
        · have hbv : decide (i < len0) = false := by simp; omega
          have HWL := Lib.hid (show ws.length ≤ 100 by have := HLE.out; omega)
          obtain ⟨K, hP8, hbk⟩ := hP.first
          have HBK := Lib.hid hbk
          have HC := Lib.hid (po_crash w wr K D gl 16 18446744073709551615 (-1) _ _ _ _ hP8 (by have := HWL.out; omega) (by omega))
          clear hP hi hlt hws hP8 hbk
          go_wp2_with fail
          refine HC.out.mono ?_
          rintro e w3 ⟨rfl, hP3, hS3⟩
          rw [crash_all _ _ _ (Nat.le_refl _), List.take_length] at hP3
          obtain ⟨K2, hQ3, hbk2⟩ := (HBK.out _ _ _ _ _ hP3 hS3).swap.first
          have HBK2 := Lib.hid hbk2
          have HF := Lib.hid (po_flush w w3 K2 E hl 16 _ _ hQ3 (by have := HWL.out; omega))
          clear hP3 hS3 HC HBK hQ3 hbk2
          go_wp2_with fail
          refine HF.out.mono ?_
          rintro e w4 ⟨rfl, hP4, hS4⟩
          have hq4 := (HBK2.out _ _ _ _ _ hP4 hS4).swap
          have hq4 : PO2 w w4 D gl 16 (flushM Z ws) [] (-1) false E hl 16 (flushM Z ws) [] (-1) false := hq4
          generalize flushM Z ws = F1 at *
          have HP4 := Lib.hid hq4
          clear hP4 hS4 HF HBK2 hq4
          go_wp2_with fail
          go_loopw [74] (fun v74 wr => ∃ j : Nat, j ≤ 16 ∧ v74 = .int .u32 (j : Nat) ∧ PO2 w wr D gl 16 F1 [] (-1) false E hl 16 F1 [] (-1) false) (fun v _ => 16 - (intOf v).toNat)
          case atStart => exact ⟨0, by omega, rfl, HP4.out⟩
          case round =>
            obtain ⟨j, hj, rfl, hP⟩ := hrel
            by_cases hlt : j < 16
            · have jI : (j : Int) < 16 := by omega
              have j0 : (0 : Int) ≤ (j : Int) := by omega
              have HLT := Lib.hid hlt
              obtain ⟨K3, hP3, _⟩ := hP.first
              have HPP := Lib.hid hP
              have HK := Lib.hid (po_peek w wr _ D gl 16 j _ _ _ _ hP3 hlt)
              clear hP hj hlt hP3
              go_wp2_with fail
              refine HK.out.mono ?_
              rintro e w5 ⟨⟨rfl, hA5, hl5, hb5⟩, _⟩
              have hP5 := HPP.out.below hb5
              obtain ⟨K4, hP6, _⟩ := hP5.swap.first
              have HP5 := Lib.hid hP5
              have HA5 := Lib.hid hA5
              have HL5 := Lib.hid hl5
              have HK2 := Lib.hid (po_peek w w5 _ E hl 16 j _ _ _ _ hP6 HLT.out)
              clear hA5 hl5 hb5 hP5 hP6 HK HPP
              generalize wr.heap.size = X at *
              go_wp2_with fail
              refine HK2.out.mono ?_
              rintro e w6 ⟨⟨rfl, hA6, _, hb6⟩, _⟩
              have HP6 := Lib.hid (HP5.out.below hb6)
              have HSE := Lib.hid (same_eq w6 _ _ _ (BS.of_arr0 (n := 512) (cap := 512) (HA5.out.below hb6 (zlt HA5.out)) HL5.out) (BS.of_arr0 (n := 512) (cap := 512) hA6 HL5.out))
              clear hA6 hb6 HK2 HP5 HA5
              generalize w5.heap.size = Y at *
              go_wp2_with fail
              refine HSE.out.mono ?_
              rintro e w7 ⟨rfl, rfl⟩
              go_wp2_with fail
              go_roundw
              case rel => exact ⟨j + 1, by have := HLT.out; omega, by go_num, HP6.out⟩
              case measure => simp [intOf]; have := HLT.out; omega
            · have hbv2 : decide ((j : Int) < 16) = false := by simp; omega
              have HB := Lib.hid hP.bel
              clear hP hj hlt
              go_wp2_with fail
              go_ret
              exact ⟨rfl, HB.out⟩
set_option maxRecDepth 100000 in
theorem lifted (os : Os) (started : os.Started) (H : Type) (enc : TypeId × Value → H) :
    ReturnsInHanded {} Try.checked os 5 .any (Rows.devKeptSpec.pre6 enc Try.prog Try.f5 Rows.devKeptRow.domain false) (Rows.devKeptSpec.post enc Try.prog Try.f5 false true false false) := by
  refine returnsInHanded_of_change_sized (C := Try.checked) own started (by kernel_rfl) Try.func5
    (ChangeSpec.witness6 (enc := enc) (C := Try.checked) false ⟨#[], #[.slice none 0 0, .bool false], []⟩ 8 (by kernel_rfl) (by kernel_rfl) (by kernel_rfl) (by kernel_rfl)) ?_
  intro W base args ds gs before hval0 hW hcnd hsz0 _
  have hsz : (DataW.weightsEach Try.prog (Try.f5.params.toList ++ Rows.devKeptSpec.plain.varTypes Try.prog) (ds ++ gs)).all (· ≤ reachBytes) = true := hsz0
  clear hsz0
  have hval : ∀ (j : Nat) t v, Try.f5.params[j]? = some t → args[j]? = some v → Value.okWide Try.prog W .any base t v := hval0
  have hW' := hW
  obtain ⟨p, q, hA0, hV, rfl, hfz, hnd⟩ := hW
  have hA : DataW.TrodAll enc Try.prog W 0 (fun _ => true) true Try.f5.params.toList args.toList ds p := hA0
  rw [Try.params5] at hA hval hsz
  obtain ⟨v0, vs0, d0, ds0, p0, q0, hargs, rfl, rfl, h0, r0⟩ := trodAll_cons hA
  obtain ⟨v1, vs1, d1, ds1, p1, q1, rfl, rfl, rfl, h1, r1⟩ := trodAll_cons r0
  obtain ⟨rfl, rfl, rfl⟩ := trodAll_nil r1
  obtain rfl : args = #[v0, v1] := by cases args; simp_all
  obtain ⟨rfl, rfl⟩ := trodVars_none hV
  have k0 := h0
  have lt0 : ∀ x ∈ p0, x.block < W.heap.size := by obtain ⟨m, hm⟩ := k0; exact DataW.trod_lt m _ _ _ hm
  have k1 := h1
  have lt1 : ∀ x ∈ p1, x.block < W.heap.size := by obtain ⟨m, hm⟩ := k1; exact DataW.trod_lt m _ _ _ hm
  obtain ⟨a0, len0, cap0, l0, rfl, e0, b0, m0, n0⟩ := open_yslice (j := 0) (hval 0 36 v0 rfl rfl) h0 hsz rfl rfl
  obtain ⟨al, rfl⟩ := open_flag (hval 1 4 v1 rfl rfl) h1 hsz
  clear hA0 hval0
  simp only [List.append_nil] at hW'
  refine (walk W a0 len0 cap0 (toY l0) e0 b0 m0 n0 al).mono fun e W' ⟨he, bel⟩ => ?_
  subst he
  exact ⟨_, rfl, _, _, _, [], _, [], hW', trodAll_mk1 (shut_bool Try.underlying4 _), (trodAll_cons_mk (Below.trod laidOut (by kernel_rfl) (of_decide_eq_true (by kernel_rfl)) k0 bel lt0) (trodAll_cons_mk (Below.trod laidOut (by kernel_rfl) (of_decide_eq_true (by kernel_rfl)) k1 bel lt1) trodAll_mk0)), rfl, bel.frame _, fun h => by cases h⟩

theorem over : Rows.devKeptRow.holds Try.pinned (OpenSpec.ofChange Rows.devKeptSpec) :=
  OpenClaim.holds_of_wide 5 Try.f5 rfl rfl rfl rfl rfl rfl rfl ⟨rfl, rfl, rfl, rfl, rfl⟩ rfl rfl rfl rfl rfl (by kernel_rfl) Try.func5 (by kernel_rfl)
    (of_decide_eq_true (by kernel_rfl)) (by unfold Func.isWrapper; first | (rw [if_pos (by decide +kernel)]; kernel_rfl) | (rw [if_neg (by decide +kernel)]; exact ⟨rfl, rfl⟩))
    (fun os started H enc _ => lifted os started H enc)

/-- The statement. -/
theorem proved : Rows.DevKeptSaid := over
#print axioms proved
end Go.Proofs.Ytmfpdbmohebodaa.devKept
