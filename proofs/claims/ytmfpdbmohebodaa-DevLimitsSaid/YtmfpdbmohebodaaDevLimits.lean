/-
  'DevLimits' returns true at every input, and each argument reads behind the call as it read before. Conditions: none.
-/
import Derived.Test.YtmfpdbmohebodaaRows
import Derived.Test.YtmfpdbmohebodaaYLaid
import Derived.Test.YtmfpdbmohebodaaPOpen
namespace Go.Proofs.Ytmfpdbmohebodaa.devLimits
open Go.ChangeShapes Go.WideShapes Go.ChangeAt Go.RowKit
set_option linter.unusedVariables false

theorem cell_lt {w : World} {a : Addr} {v : Value} (h : w.cell? a = some v) : a.block < w.heap.size := by
  apply Classical.byContradiction
  intro hn
  simp [World.cell?, Array.getElem?_eq_none (show w.heap.size ≤ a.block by omega)] at h
theorem goP_of (n i : Nat) : goP ((n - i : Nat) : Int) (decide (n < i)) = (((n - (i + 1) : Nat) : Int), decide (n < i + 1)) := by
  unfold goP
  by_cases h1 : n < i
  · have e : n - i = 0 := by omega
    have e2 : n - (i + 1) = 0 := by omega
    rw [e, e2]
    simp [h1]; omega
  · by_cases h2 : n = i
    · subst h2
      simp
    · rw [if_pos ⟨by simp [h1], by omega⟩]
      simp only [Prod.mk.injEq]
      refine ⟨by omega, ?_⟩
      rw [Bool.eq_iff_iff]
      simp; omega

set_option maxRecDepth 100000 in
set_option maxHeartbeats 3200000 in
theorem walk (w : World) (b0 : BitVec 8) (av : Option Addr) (lenv capv : Nat) (B : Nat → Bool) (hcells : ∀ i, i < lenv → ∃ ad : Addr, av = some ad ∧ w.cell? (ad.add i) = some (.bool (B i))) (hlenv : lenv ≤ maxLen) :
    Calls Try.prog 7 #[.int .u8 (yv b0), .slice av lenv capv] w fun e w' => e = .returned (.bool true) ∧ Below w.heap.size w w' := by
  obtain ⟨n, hn⟩ : ∃ n : Nat, b0.toNat = n := ⟨_, rfl⟩
  have hyn : yv b0 = (n : Int) := by rw [yv_nat, hn]
  have hn2 : n < 256 := by have := b0.isLt; omega
  rw [hyn]
  have y1 : (1 : Int) = yv (1 : BitVec 8) := by decide
  have HS := Lib.hid (fun (w0 w : World) K D gl n F ws lim dn h => by have q := po_sector w0 w K D gl n F ws lim dn 1 1 h; rw [← y1] at q; exact q)
  have HL := Lib.hid (secB_length 1 1)
  have HNW := Lib.hid (fun w1 hb => po_new w w1 16 hb (by decide) (by decide))
  generalize zeroY (16 * 512) = Z at *
  generalize secB 1 1 = S at *
  have HCL := Lib.hid hcells
  have nI : (n : Int) < 256 := by omega
  have n0 : (0 : Int) ≤ (n : Int) := by omega
  have lI : (lenv : Int) ≤ 9223372036854775807 := by unfold maxLen at hlenv; omega
  have HN2 := Lib.hid hn2
  clear y1 hcells hn hyn hlenv hn2
  go_enter Try.func7, Try.ntmps7
  go_wp2_with fail
  refine (alive6_any w).mono ?_
  rintro e w1 ⟨rfl, hb1⟩
  have HN := Lib.hid (HNW.out w1 hb1)
  have HB1 := Lib.hid hb1
  clear hb1 HNW
  by_cases hbig : 300 < lenv
  · have h3 : (300 : Int) < (lenv : Int) := by omega
    go_wp2_with fail
    go_ret
    exact ⟨rfl, HB1.out⟩
  · have h3 : decide ((300 : Int) < (lenv : Int)) = false := by simp; omega
    have HLE := Lib.hid (show lenv ≤ 300 by omega)
    clear hbig
    go_wp2_with fail
    refine HN.out.mono ?_
    rintro e w2 ⟨rfl, hP2, hb2⟩
    generalize w1.heap.size + 2 = D at *
    generalize w1.heap.size = gl at *
    have HP2 := Lib.hid hP2
    have HLM := Lib.hid (po_limit w w2 _ D gl 16 Z [] (-1) (n : Int) false hP2 (by omega))
    clear hP2 hb2 HN h3
    go_wp2_with fail
    refine HLM.out.mono ?_
    rintro e w3 ⟨rfl, hP3, _⟩
    rw [if_neg (by omega)] at hP3
    have HP3 := Lib.hid hP3
    clear hP3 HLM HP2
    go_wp2_with fail
    go_loopw [33] (fun v33 wr => ∃ i : Nat, i ≤ lenv ∧ v33 = .int .i64 (i : Nat) ∧ ∃ K F ws, PO w wr K D gl 16 F ws ((n - i : Nat) : Int) (decide (n < i)) ∧ ws.length ≤ i) (fun v _ => lenv - (intOf v).toNat)
    case atStart => exact ⟨0, by omega, rfl, [], Z, [], by simpa using HP3.out, by simp⟩
    case round =>
      obtain ⟨i, hi, rfl, K, F, ws, hP, hws⟩ := hrel
      by_cases hlt : i < lenv
      · obtain ⟨ad, rfl, hc⟩ := HCL.out i hlt
        have hc2 := (hP.bel.cell (p := ad.add i) (cell_lt hc)).trans hc
        have HWS := Lib.hid hws
        have HLT := Lib.hid hlt
        have iI : (i : Int) < (lenv : Int) := by omega
        have i0 : (0 : Int) ≤ (i : Int) := by omega
        have i3 : (i : Int) < 300 := by have := HLE.out; omega
        clear hc hi hlt hws
        cases hBi : B i
        all_goals rw [hBi] at hc2
        all_goals by_cases hin : i < n
        · have hdn : decide (n < i) = false := by simp; omega
          have hg := goP_of n i
          rw [hdn] at hP hg
          rw [show decide (n < i + 1) = false by simp; omega] at hg
          have HG := Lib.hid (congrArg Prod.fst hg)
          have hd2 := Lib.hid (show decide (n < i + 1) = false by simp; omega)
          have hge : decide (n ≤ i) = false := by simp; omega
          have hlt2 : decide (i < n) = true := by simp; omega
          have HSC := Lib.hid (HS.out _ _ _ _ _ _ _ _ _ _ hP)
          clear hP hg
          go_wp2_with fail
          refine HSC.out.mono ?_
          rintro e w4 ⟨rfl, hA4, hP4, _⟩
          have HC := Lib.hid (po_write_lim w w4 _ D gl 16 5 _ 512 F S ws _ hP4 (by omega) (by decide) hA4 HL.out (by have := HLE.out; have := HWS.out; omega))
          clear HSC hA4 hP4
          go_wp2_with fail
          refine HC.out.mono ?_
          rintro e w5 ⟨rfl, hP5, _⟩
          rw [HG.out] at hP5
          have HP5 := Lib.hid hP5
          have HD := Lib.hid (po_down w w5 _ D gl 16 _ _ _ _ hP5)
          clear hP5 HC
          go_wp2_with fail
          refine HD.out.mono ?_
          rintro e w6 ⟨rfl, rfl⟩
          go_wp2_with fail
          go_roundw
          case rel => exact ⟨i + 1, by have := HLT.out; omega, by go_num, _, _, _, by rw [hd2.out]; exact HP5.out, by rw [List.length_append]; have := HWS.out; simp; omega⟩
          case measure => simp [intOf]; have := HLT.out; omega
        · have hg := goP_of n i
          rw [show decide (n < i + 1) = true by simp; omega] at hg
          have HG := Lib.hid (congrArg Prod.fst hg)
          have HG2 := Lib.hid (congrArg Prod.snd hg)
          have hd2 := Lib.hid (show decide (n < i + 1) = true by simp; omega)
          have hge : decide (n ≤ i) = true := by simp; omega
          have hlt2 : decide (i < n) = false := by simp; omega
          have HSC := Lib.hid (HS.out _ _ _ _ _ _ _ _ _ _ hP)
          clear hP hg
          go_wp2_with fail
          refine HSC.out.mono ?_
          rintro e w4 ⟨rfl, hA4, hP4, _⟩
          have HC := Lib.hid (po_write_no w w4 _ D gl 16 5 512 (some ⟨wr.heap.size, 0, none⟩) F ws _ _ hP4 (by decide) HG2.out)
          clear HSC hA4 hP4
          go_wp2_with fail
          refine HC.out.mono ?_
          rintro e w5 ⟨rfl, hP5, _⟩
          rw [HG.out] at hP5
          have HP5 := Lib.hid hP5
          have HD := Lib.hid (po_down w w5 _ D gl 16 _ _ _ _ hP5)
          clear hP5 HC
          go_wp2_with fail
          refine HD.out.mono ?_
          rintro e w6 ⟨rfl, rfl⟩
          go_wp2_with fail
          go_roundw
          case rel => exact ⟨i + 1, by have := HLT.out; omega, by go_num, _, _, _, by rw [hd2.out]; exact HP5.out, by have := HWS.out; omega⟩
          case measure => simp [intOf]; have := HLT.out; omega
        · have hdn : decide (n < i) = false := by simp; omega
          have hg := goP_of n i
          rw [hdn] at hP hg
          rw [show decide (n < i + 1) = false by simp; omega] at hg
          have HG := Lib.hid (congrArg Prod.fst hg)
          have hd2 := Lib.hid (show decide (n < i + 1) = false by simp; omega)
          have hge : decide (n ≤ i) = false := by simp; omega
          have hlt2 : decide (i < n) = true := by simp; omega
          have HC := Lib.hid (po_flush_lim w wr K D gl 16 F ws _ hP (by omega) (by have := HLE.out; have := HWS.out; omega))
          clear hP hg
          go_wp2_with fail
          refine HC.out.mono ?_
          rintro e w5 ⟨rfl, hP5, _⟩
          rw [HG.out] at hP5
          have HP5 := Lib.hid hP5
          have HD := Lib.hid (po_down w w5 _ D gl 16 _ _ _ _ hP5)
          clear hP5 HC
          go_wp2_with fail
          refine HD.out.mono ?_
          rintro e w6 ⟨rfl, rfl⟩
          go_wp2_with fail
          go_roundw
          case rel => exact ⟨i + 1, by have := HLT.out; omega, by go_num, _, _, _, by rw [hd2.out]; exact HP5.out, by simp⟩
          case measure => simp [intOf]; have := HLT.out; omega
        · have hg := goP_of n i
          rw [show decide (n < i + 1) = true by simp; omega] at hg
          have HG := Lib.hid (congrArg Prod.fst hg)
          have HG2 := Lib.hid (congrArg Prod.snd hg)
          have hd2 := Lib.hid (show decide (n < i + 1) = true by simp; omega)
          have hge : decide (n ≤ i) = true := by simp; omega
          have hlt2 : decide (i < n) = false := by simp; omega
          have HC := Lib.hid (po_flush_no w wr K D gl 16 F ws _ _ hP HG2.out)
          clear hP hg
          go_wp2_with fail
          refine HC.out.mono ?_
          rintro e w5 ⟨rfl, hP5, _⟩
          rw [HG.out] at hP5
          have HP5 := Lib.hid hP5
          have HD := Lib.hid (po_down w w5 _ D gl 16 _ _ _ _ hP5)
          clear hP5 HC
          go_wp2_with fail
          refine HD.out.mono ?_
          rintro e w6 ⟨rfl, rfl⟩
          go_wp2_with fail
          go_roundw
          case rel => exact ⟨i + 1, by have := HLT.out; omega, by go_num, _, _, _, by rw [hd2.out]; exact HP5.out, by have := HWS.out; omega⟩
          case measure => simp [intOf]; have := HLT.out; omega
      · have hbv : decide (i < lenv) = false := by simp; omega
        have HE := Lib.hid (show ws.length ≤ 300 by have := HLE.out; omega)
        by_cases hni : n < i
        · have hd : decide (n < i) = true := by simp [hni]
          rw [hd] at hP
          have HD := Lib.hid (po_down w wr _ D gl 16 _ _ _ _ hP)
          have HP := Lib.hid hP
          clear hP hi hlt hws hni hd
          go_wp2_with fail
          refine HD.out.mono ?_
          rintro e w4 ⟨rfl, rfl⟩
          have HR := Lib.hid (po_read_down w w4 _ D gl 16 5 _ _ _ HP.out (by decide))
          clear HD
          go_wp2_with fail
          refine HR.out.mono ?_
          rintro e w5 ⟨rfl, rfl⟩
          have HK := Lib.hid (po_peek w w5 _ D gl 16 5 _ _ _ _ HP.out (by decide))
          clear HR HP
          go_wp2_with fail
          refine HK.out.mono ?_
          rintro e w6 ⟨⟨rfl, _, _, _⟩, hP6⟩
          have HC := Lib.hid (po_crash w w6 _ D gl 16 0 (-1) _ _ _ _ hP6 (by have := HE.out; omega) (by decide))
          clear hP6 HK
          generalize w5.heap.size = X at *
          go_wp2_with fail
          refine HC.out.mono ?_
          rintro e w7 ⟨rfl, hP7, _⟩
          have HR := Lib.hid (po_read w w7 _ D gl 16 5 _ _ _ hP7 (by decide))
          clear hP7 HC
          go_wp2_with fail
          refine HR.out.mono ?_
          rintro e w8 ⟨⟨rfl, _, _, _⟩, hP8⟩
          have HSC := Lib.hid (HS.out _ _ _ _ _ _ _ _ _ _ hP8)
          clear hP8 HR
          generalize w7.heap.size = Y at *
          go_wp2_with fail
          refine HSC.out.mono ?_
          rintro e w9 ⟨rfl, hA9, hP9, _⟩
          have HW := Lib.hid (po_write w w9 _ D gl 16 5 _ 512 _ S _ hP9 (by decide) hA9 HL.out (by simp))
          clear hA9 hP9 HSC
          go_wp2_with fail
          refine HW.out.mono ?_
          rintro e w10 ⟨rfl, hP10, _⟩
          have HF := Lib.hid (po_flush w w10 _ D gl 16 _ _ hP10 (by simp))
          clear hP10 HW
          go_wp2_with fail
          refine HF.out.mono ?_
          rintro e w11 ⟨rfl, hP11, _⟩
          have HB := Lib.hid hP11.bel
          clear hP11 HF
          go_wp2_with fail
          go_ret
          exact ⟨rfl, HB.out⟩
        · have hd : decide (n < i) = false := by simp [hni]
          rw [hd] at hP
          have HD := Lib.hid (po_down w wr _ D gl 16 _ _ _ _ hP)
          have HB := Lib.hid hP.bel
          clear hP hi hlt hws hni hd
          go_wp2_with fail
          refine HD.out.mono ?_
          rintro e w4 ⟨rfl, rfl⟩
          go_wp2_with fail
          go_ret
          exact ⟨rfl, HB.out⟩
set_option maxRecDepth 100000 in
theorem lifted (os : Os) (started : os.Started) (H : Type) (enc : TypeId × Value → H) :
    ReturnsInHanded {} Try.checked os 7 .any (Rows.devLimitsSpec.pre6 enc Try.prog Try.f7 Rows.devLimitsRow.domain false) (Rows.devLimitsSpec.post enc Try.prog Try.f7 false true false false) := by
  refine returnsInHanded_of_change_sized (C := Try.checked) own started (by kernel_rfl) Try.func7
    (ChangeSpec.witness6 (enc := enc) (C := Try.checked) false ⟨#[], #[.int .u8 0, .slice none 0 0], []⟩ 8 (by kernel_rfl) (by kernel_rfl) (by kernel_rfl) (by kernel_rfl)) ?_
  intro W base args ds gs before hval0 hW hcnd hsz0 _
  have hsz : (DataW.weightsEach Try.prog (Try.f7.params.toList ++ Rows.devLimitsSpec.plain.varTypes Try.prog) (ds ++ gs)).all (· ≤ reachBytes) = true := hsz0
  clear hsz0
  have hval : ∀ (j : Nat) t v, Try.f7.params[j]? = some t → args[j]? = some v → Value.okWide Try.prog W .any base t v := hval0
  have hW' := hW
  obtain ⟨p, q, hA0, hV, rfl, hfz, hnd⟩ := hW
  have hA : DataW.TrodAll enc Try.prog W 0 (fun _ => true) true Try.f7.params.toList args.toList ds p := hA0
  rw [Try.params7] at hA hval hsz
  obtain ⟨v0, vs0, d0, ds0, p0, q0, hargs, rfl, rfl, h0, r0⟩ := trodAll_cons hA
  obtain ⟨v1, vs1, d1, ds1, p1, q1, rfl, rfl, rfl, h1, r1⟩ := trodAll_cons r0
  obtain ⟨rfl, rfl, rfl⟩ := trodAll_nil r1
  obtain rfl : args = #[v0, v1] := by cases args; simp_all
  obtain ⟨rfl, rfl⟩ := trodVars_none hV
  have k1 := h1
  have lt1 : ∀ x ∈ p1, x.block < W.heap.size := by obtain ⟨m, hm⟩ := k1; exact DataW.trod_lt m _ _ _ hm
  obtain ⟨a0, rfl, rfl, rfl, w0⟩ := open_int Try.underlying5 (hval 0 5 v0 rfl rfl) h0
  obtain ⟨b0, rfl⟩ := byte_of w0
  obtain ⟨av, lenv, capv, B, rfl, hcells, hlenv⟩ := open_flags (hval 1 62 v1 rfl rfl) h1 hsz
  clear hA0 hval0
  simp only [List.append_nil] at hW'
  refine (walk W b0 av lenv capv B hcells hlenv).mono fun e W' ⟨he, bel⟩ => ?_
  subst he
  exact ⟨_, rfl, _, _, _, [], _, [], hW', trodAll_mk1 (shut_bool Try.underlying4 _), (trodAll_cons_mk (shut_int Try.underlying5 w0) (trodAll_cons_mk (Below.trod laidOut (by kernel_rfl) (of_decide_eq_true (by kernel_rfl)) k1 bel lt1) trodAll_mk0)), rfl, bel.frame _, fun h => by cases h⟩

theorem over : Rows.devLimitsRow.holds Try.pinned (OpenSpec.ofChange Rows.devLimitsSpec) :=
  OpenClaim.holds_of_wide 7 Try.f7 rfl rfl rfl rfl rfl rfl rfl ⟨rfl, rfl, rfl, rfl, rfl⟩ rfl rfl rfl rfl rfl (by kernel_rfl) Try.func7 (by kernel_rfl)
    (of_decide_eq_true (by kernel_rfl)) (by unfold Func.isWrapper; first | (rw [if_pos (by decide +kernel)]; kernel_rfl) | (rw [if_neg (by decide +kernel)]; exact ⟨rfl, rfl⟩))
    (fun os started H enc _ => lifted os started H enc)

/-- The statement. -/
theorem proved : Rows.DevLimitsSaid := over
#print axioms proved
end Go.Proofs.Ytmfpdbmohebodaa.devLimits
