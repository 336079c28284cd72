/-
  'DevOwn' returns true at every input, and each argument reads behind the call as it read before. Conditions: none.
-/
import Derived.Test.YtmfpdbmohebodaaRows
import Derived.Test.YtmfpdbmohebodaaYLaid
import Derived.Test.YtmfpdbmohebodaaPOwn
namespace Go.Proofs.Ytmfpdbmohebodaa.devOwn
open Go.ChangeShapes Go.WideShapes Go.ChangeAt Go.RowKit
set_option linter.unusedVariables false


set_option maxRecDepth 100000 in
set_option maxHeartbeats 3200000 in
theorem walk (b0 : BitVec 8) (b1 : BitVec 8) (w : World) :
    Calls Try.prog 8 #[.int .u8 (yv b0), .int .u8 (yv b1)] w fun e w' => e = .returned (.bool true) ∧ Below w.heap.size w w' := by
  have HS := Lib.hid (fun (w0 w : World) K D gl n F ws lim dn h => po_sector w0 w K D gl n F ws lim dn b0 b1 h)
  have HL := Lib.hid (secB_length b0 b1)
  have hzl : (zeroY (16 * 512)).length = 16 * 512 := List.length_replicate
  have HNW := Lib.hid (fun w1 hb => po_new w w1 16 hb (by decide) (by decide))
  generalize zeroY (16 * 512) = Z at *
  generalize secB b0 b1 = S at *
  have HZL := Lib.hid hzl
  clear hzl
  go_enter Try.func8, Try.ntmps8
  go_wp2_with fail
  refine (alive6_any w).mono ?_
  rintro e w1 ⟨rfl, hb1⟩
  have HN := Lib.hid (HNW.out w1 hb1)
  clear hb1 HNW
  go_wp2_with fail
  refine HN.out.mono ?_
  rintro e w2 ⟨rfl, hP2, hb2⟩
  have HWS := Lib.hid (show w.heap.size ≤ w2.heap.size from hP2.bel.size)
  have HP2 := Lib.hid hP2
  clear hP2 hb2 HN
  generalize w1.heap.size + 2 = D at *
  generalize w1.heap.size = gl at *
  go_wp2_with fail
  refine (HS.out _ _ _ _ _ _ _ _ _ _ HP2.out).mono ?_
  rintro e w3 ⟨rfl, hA3, hP3, _⟩
  have HA3 := Lib.hid hA3
  have HWX := Lib.hid HWS.out
  generalize w2.heap.size = X at *
  have HW3 := Lib.hid (po_write w w3 _ D gl 16 2 _ 512 Z S [] hP3 (by decide) hA3 HL.out (by simp))
  clear hA3 hP3 HP2
  go_wp2_with fail
  refine HW3.out.mono ?_
  rintro e w4 ⟨rfl, hP4, hS4⟩
  have hA4 : ArrY w4 X 5 S := (hS4 X (by simp)).trans HA3.out
  have c4 := hA4.cell (k := 0) (by rw [HL.out]; decide)
  have f4 := hA4.free 0
  have HP4b := Lib.hid hP4.bel.size
  have HP4 := Lib.hid hP4
  clear hP4 hS4 hA4 HW3 HA3
  go_upto_region 7 with fail
  generalize hW5 : World.setCell w4 _ _ = w5
  have hO5 : Only X w4 w5 := by rw [← hW5]; exact (Only.refl _ _).setCell _ _
  have hO5s := Lib.hid (Nat.le_of_eq hO5.size.symm)
  have HR5 := Lib.hid (po_read w w5 _ D gl 16 2 Z _ (-1) (HP4.out.set hO5 (by simp) HWX.out) (by decide))
  clear hW5 hO5 c4 f4 HP4
  go_wp2_with fail
  refine HR5.out.mono ?_
  rintro e w6 ⟨⟨rfl, hA6, hl6, hb6⟩, hP6⟩
  have HWY := Lib.hid (Nat.le_trans HP4b.out hO5s.out)
  generalize w5.heap.size = Y at *
  have c6 := hA6.cell (k := 1) (by rw [hl6]; decide)
  have f6 := hA6.free 1
  have HP6 := Lib.hid hP6
  clear hA6 hl6 hb6 hP6 HR5
  go_upto_region 9 with fail
  generalize hW7 : World.setCell w6 _ _ = w7
  have hO7 : Only Y w6 w7 := by rw [← hW7]; exact (Only.refl _ _).setCell _ _
  have HF7 := Lib.hid (po_flush w w7 _ D gl 16 Z _ (HP6.out.set hO7 (by simp) HWY.out) (by simp))
  clear hW7 hO7 c6 f6 HP6
  go_wp2_with fail
  refine HF7.out.mono ?_
  rintro e w8 ⟨rfl, hP8, _⟩
  have hP8 : PO w w8 _ D gl 16 (putL Z (2 * 512) S) [] (-1) false := hP8
  have hLn := Lib.hid hP8.len
  have hSE := Lib.hid (secY_same Z S 2 16 HZL.out (by decide) HL.out)
  generalize putL Z (2 * 512) S = G at *
  have HK8 := Lib.hid (po_peek w w8 _ D gl 16 2 G [] (-1) false hP8 (by decide))
  have HWV := Lib.hid hP8.bel.size
  clear hP8 HF7
  go_wp2_with fail
  refine HK8.out.mono ?_
  rintro e w9 ⟨⟨rfl, hA9, hl9, hb9⟩, hP9⟩
  generalize w8.heap.size = V at *
  have c9 := hA9.cell (k := 2) (by rw [hl9]; decide)
  have f9 := hA9.free 2
  have HP9 := Lib.hid hP9
  clear hA9 hl9 hb9 hP9 HK8
  go_upto_region 12 with fail
  generalize hW10 : World.setCell w9 _ _ = w10
  have hO10 : Only V w9 w10 := by rw [← hW10]; exact (Only.refl _ _).setCell _ _
  have HR10 := Lib.hid (po_read w w10 _ D gl 16 2 G [] (-1) (HP9.out.set hO10 (by simp) HWV.out) (by decide))
  clear hW10 hO10 c9 f9 HP9
  go_wp2_with fail
  refine HR10.out.mono ?_
  rintro e w11 ⟨⟨rfl, hA11, hl11, hb11⟩, hP11⟩
  rw [show readM G [] 2 = S from hSE.out] at hA11
  have HA11 := Lib.hid hA11
  have HP11 := Lib.hid hP11
  clear hA11 hl11 hb11 hP11 HR10
  generalize w10.heap.size = U at *
  go_wp2_with fail
  refine (HS.out _ _ _ _ _ _ _ _ _ _ HP11.out).mono ?_
  rintro e w12 ⟨rfl, hA12, hP12, hb12⟩
  have hz := HA11.out.below hb12 (zlt HA11.out)
  have HE := Lib.hid (same_eq w12 _ _ (S.map yv) (BS.of_arr0 (n := 512) (cap := 512) hz HL.out) (BS.of_arr0 (n := 512) (cap := 512) hA12 HL.out))
  have HB := Lib.hid hP12.bel
  clear hA12 hP12 hb12 hz HA11 HP11
  go_wp2_with fail
  refine HE.out.mono ?_
  rintro e w13 ⟨rfl, rfl⟩
  go_wp2_with fail
  go_ret
  exact ⟨rfl, HB.out⟩
set_option maxRecDepth 100000 in
theorem lifted (os : Os) (started : os.Started) (H : Type) (enc : TypeId × Value → H) :
    ReturnsInHanded {} Try.checked os 8 .any (Rows.devOwnSpec.pre6 enc Try.prog Try.f8 Rows.devOwnRow.domain false) (Rows.devOwnSpec.post enc Try.prog Try.f8 false true false false) := by
  refine returnsInHanded_of_change (C := Try.checked) own started (by kernel_rfl) Try.func8
    (ChangeSpec.witness6 (enc := enc) (C := Try.checked) false ⟨#[], #[.int .u8 0, .int .u8 0], []⟩ 8 (by kernel_rfl) (by kernel_rfl) (by kernel_rfl) (by kernel_rfl)) ?_
  intro W base args ds gs before hval0 hW hcnd _
  have hval : ∀ (j : Nat) t v, Try.f8.params[j]? = some t → args[j]? = some v → Value.okWide Try.prog W .any base t v := hval0
  have hW' := hW
  obtain ⟨p, q, hA0, hV, rfl, hfz, hnd⟩ := hW
  have hA : DataW.TrodAll enc Try.prog W 0 (fun _ => true) true Try.f8.params.toList args.toList ds p := hA0
  rw [Try.params8] at hA hval
  obtain ⟨v0, vs0, d0, ds0, p0, q0, hargs, rfl, rfl, h0, r0⟩ := trodAll_cons hA
  obtain ⟨v1, vs1, d1, ds1, p1, q1, rfl, rfl, rfl, h1, r1⟩ := trodAll_cons r0
  obtain ⟨rfl, rfl, rfl⟩ := trodAll_nil r1
  obtain rfl : args = #[v0, v1] := by cases args; simp_all
  obtain ⟨rfl, rfl⟩ := trodVars_none hV
  obtain ⟨a0, rfl, rfl, rfl, w0⟩ := open_int Try.underlying5 (hval 0 5 v0 rfl rfl) h0
  obtain ⟨b0, rfl⟩ := byte_of w0
  obtain ⟨a1, rfl, rfl, rfl, w1⟩ := open_int Try.underlying5 (hval 1 5 v1 rfl rfl) h1
  obtain ⟨b1, rfl⟩ := byte_of w1
  clear hA0 hval0
  simp only [List.append_nil] at hW'
  refine (walk b0 b1 W).mono fun e W' ⟨he, bel⟩ => ?_
  subst he
  exact ⟨_, rfl, _, _, _, [], _, [], hW', trodAll_mk1 (shut_bool Try.underlying4 _), (trodAll_cons_mk (shut_int Try.underlying5 w0) (trodAll_cons_mk (shut_int Try.underlying5 w1) trodAll_mk0)), rfl, bel.frame _, fun h => by cases h⟩

theorem over : Rows.devOwnRow.holds Try.pinned (OpenSpec.ofChange Rows.devOwnSpec) :=
  OpenClaim.holds_of_wide 8 Try.f8 rfl rfl rfl rfl rfl rfl rfl ⟨rfl, rfl, rfl, rfl, rfl⟩ rfl rfl rfl rfl rfl (by kernel_rfl) Try.func8 (by kernel_rfl)
    (of_decide_eq_true (by kernel_rfl)) (by unfold Func.isWrapper; first | (rw [if_pos (by decide +kernel)]; kernel_rfl) | (rw [if_neg (by decide +kernel)]; exact ⟨rfl, rfl⟩))
    (fun os started H enc _ => lifted os started H enc)

/-- The statement. -/
theorem proved : Rows.DevOwnSaid := over
#print axioms proved
end Go.Proofs.Ytmfpdbmohebodaa.devOwn
