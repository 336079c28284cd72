/-
  'CodecParts' returns true at every input, and each argument reads behind the call as it read before. Conditions: none.
-/
import Derived.Test.YtclahpmghifehaaRows
import Derived.Test.YtclahpmghifehaaYLaid
import Derived.Test.YtclahpmghifehaaWL
import Derived.Test.YtclahpmghifehaaOpn
namespace Go.Proofs.Ytclahpmghifehaa.codecParts
open Go.ChangeShapes Go.WideShapes Go.ChangeAt Go.RowKit
set_option linter.unusedVariables false

theorem rawA_in (k : Nat) (l : List Int) (h : k ≤ l.length) : rawA (k : Int) l = (l.take k, 0, l.drop k) := by
  unfold rawA
  rw [if_neg (by omega), if_neg (by omega)]
  rfl
theorem numA_in (k : Nat) (l : List Int) (h : k ≤ l.length) (h8 : k ≤ 8) : numA (k : Int) l = (num (l.take k), 0, l.drop k) := by
  unfold numA
  rw [if_neg (by omega), rawA_in k l h]
theorem numW_in (z : Int) (h0 : 0 ≤ z) (h1 : z ≤ 18446744073709551615) : numW z 8 = (putI z 8, 0) := by
  unfold numW
  rw [if_neg (by simp; omega)]
  rfl
theorem parts_back (z : Int) (h0 : 0 ≤ z) (h1 : z ≤ 18446744073709551615) (k : Nat) (hk : k ≤ 8) :
    bits BinOp.or IntKind.u64 (IntKind.u64.wrap (num ((putI z 8).take k) * 2 ^ (8 * (8 - k)))) (num ((putI z 8).drop k)) = z := by
  have hl := putI_length z 8
  have hb := putI_byt z 8
  have h := parts_or ((putI z 8).take k) ((putI z 8).drop k) (byt_take _ hb k) (fun x hx => hb x (List.mem_of_mem_drop hx)) (by rw [List.length_take, List.length_drop]; omega)
  rw [List.take_append_drop, List.length_drop, hl, putI_num 8 z h0 (by omega)] at h
  exact h

set_option maxRecDepth 100000 in
set_option maxHeartbeats 3200000 in
theorem walk (w : World) (z0 : Int) (za0 : 0 ≤ z0) (zb0 : z0 ≤ 18446744073709551615) (z1 : Int) (za1 : 0 ≤ z1) (zb1 : z1 ≤ 255) :
    Calls Try.prog 8 #[.int .u64 z0, .int .u8 z1] w fun e w' => e = .returned (.bool true) ∧ Below w.heap.size w w' := by
  obtain ⟨k, hk⟩ : ∃ k : Nat, z1 % 9 = (k : Int) := ⟨(z1 % 9).toNat, by omega⟩
  have k8 : k ≤ 8 := by omega
  have kI : (k : Int) ≤ 8 := by omega
  obtain ⟨j, hj⟩ : ∃ j : Nat, 8 - k = j := ⟨_, rfl⟩
  have hjI : (8 : Int) - (k : Int) = (j : Int) := by omega
  have j0 : (0 : Int) ≤ (j : Int) := by omega
  have j8 : (j : Int) ≤ 8 := by omega
  have HK := Lib.hid k8
  have hz := zero_writer
  have HA := Lib.hid (alive7_any w)
  have HZ := Lib.hid (And.intro za0 zb0)
  have HPB := Lib.hid (parts_back z0 za0 zb0 k k8)
  have HNW := Lib.hid (numW_in z0 za0 zb0)
  have HPL := Lib.hid (putI_length z0 8)
  rw [hj] at HPB
  generalize hL : putI z0 8 = L at *
  have HDJ := Lib.hid (show (L.drop k).take j = L.drop k by rw [List.take_of_length_le]; rw [List.length_drop, HPL.out]; omega)
  have HLD := Lib.hid (show List.drop j (List.drop k L) = [] by apply List.drop_eq_nil_of_le; rw [List.length_drop, HPL.out]; omega)
  clear hL hj
  go_enter Try.func8, Try.ntmps8
  go_wp2_with fail
  refine HA.out.mono ?_
  rintro e w1 ⟨rfl, hb1⟩
  have HN := Lib.hid (wl_num w _ w1.heap.size [] z0 8 (wl_new hb1) HZ.out.1 (by simp))
  rw [HNW.out, List.nil_append] at HN
  clear hb1 HA
  go_wp2_with fail
  refine HN.out.mono ?_
  rintro e w2 ⟨rfl, h2⟩
  have HY := Lib.hid (wl_bytes w w2 _ _ h2 (by rw [HPL.out]; decide))
  have HB2 := Lib.hid h2.bel
  clear h2 HN
  generalize w1.heap.size = P at *
  go_wp2_with fail
  refine HY.out.mono ?_
  rintro e w3 ⟨a, c, rfl, _, hbs, _, hb3⟩
  have HR := Lib.hid (rl_read w w3 _ _ (HB2.out.trans (hb3.mono HB2.out.size)) hbs (by rw [HPL.out]; decide))
  clear hbs hb3 HY HB2
  go_wp2_with fail
  refine HR.out.mono ?_
  rintro e w4 ⟨R, rfl, hr, _⟩
  have HX := Lib.hid (rl_num w w4 R L (k : Int) hr (by omega))
  rw [numA_in k L (by rw [HPL.out]; exact HK.out) HK.out] at HX
  clear hr HR
  go_wp2_with fail
  refine HX.out.mono ?_
  rintro e w5 ⟨rfl, hr5⟩
  have HX5 := Lib.hid (rl_num w w5 R _ (j : Int) hr5 (by omega))
  rw [numA_in j _ (by rw [List.length_drop, HPL.out]; have := HK.out; omega) (by omega), HDJ.out, HLD.out] at HX5
  clear hr5 HX
  go_wp2_with fail
  refine HX5.out.mono ?_
  rintro e w6 ⟨rfl, hr6⟩
  have HE6 := Lib.hid (rl_left w w6 R _ hr6)
  have HB6 := Lib.hid hr6.bel
  clear hr6 HX5
  go_wp2_with fail
  refine HE6.out.mono ?_
  rintro e w7 ⟨rfl, rfl⟩
  have hpb := HPB.out
  generalize num (List.take k L) = X at *
  generalize num (List.drop k L) = Y at *
  go_wp2_with fail
  go_ret
  exact ⟨rfl, HB6.out⟩
set_option maxRecDepth 100000 in
theorem lifted (os : Os) (started : os.Started) (H : Type) (enc : TypeId × Value → H) :
    ReturnsInHanded {} Try.checked os 8 .any (Rows.codecPartsSpec.pre6 enc Try.prog Try.f8 Rows.codecPartsRow.domain false) (Rows.codecPartsSpec.post enc Try.prog Try.f8 false true false false) := by
  refine returnsInHanded_of_change_sized (C := Try.checked) own started (by kernel_rfl) Try.func8
    (ChangeSpec.witness6 (enc := enc) (C := Try.checked) false ⟨#[], #[.int .u64 0, .int .u8 0], []⟩ 8 (by kernel_rfl) (by kernel_rfl) (by kernel_rfl) (by kernel_rfl)) ?_
  intro W base args ds gs before hval0 hW hcnd hsz0 _
  have hsz : (DataW.weightsEach Try.prog (Try.f8.params.toList ++ Rows.codecPartsSpec.plain.varTypes Try.prog) (ds ++ gs)).all (· ≤ reachBytes) = true := hsz0
  clear hsz0
  have hval : ∀ (j : Nat) t v, Try.f8.params[j]? = some t → args[j]? = some v → Value.okWide Try.prog W .any base t v := hval0
  have hW' := hW
  obtain ⟨p, q, hA0, hV, rfl, hfz, hnd⟩ := hW
  have hA : DataW.TrodAll enc Try.prog W 0 (fun _ => true) true Try.f8.params.toList args.toList ds p := hA0
  rw [Try.params8] at hA hval hsz
  obtain ⟨v0, vs0, d0, ds0, p0, q0, hargs, rfl, rfl, h0, r0⟩ := trodAll_cons hA
  obtain ⟨v1, vs1, d1, ds1, p1, q1, rfl, rfl, rfl, h1, r1⟩ := trodAll_cons r0
  obtain ⟨rfl, rfl, rfl⟩ := trodAll_nil r1
  obtain rfl : args = #[v0, v1] := by cases args; simp_all
  obtain ⟨rfl, rfl⟩ := trodVars_none hV
  have k0 := h0
  have lt0 : ∀ x ∈ p0, x.block < W.heap.size := by obtain ⟨m, hm⟩ := k0; exact DataW.trod_lt m _ _ _ hm
  have k1 := h1
  have lt1 : ∀ x ∈ p1, x.block < W.heap.size := by obtain ⟨m, hm⟩ := k1; exact DataW.trod_lt m _ _ _ hm
  obtain ⟨z0, rfl, za0, zb0⟩ := par_int (j := 0) .u64 _ _ Try.underlying28 wf_u64 (hval 0 28 v0 rfl rfl) h0 hsz rfl rfl
  obtain ⟨z1, rfl, za1, zb1⟩ := par_int (j := 1) .u8 _ _ Try.underlying5 wf_u8 (hval 1 5 v1 rfl rfl) h1 hsz rfl rfl
  clear hA0 hval0
  simp only [List.append_nil] at hW'
  refine (walk W z0 za0 zb0 z1 za1 zb1).mono fun e W' ⟨he, bel⟩ => ?_
  subst he
  exact ⟨_, rfl, _, _, _, [], _, [], hW', trodAll_mk1 (shut_bool Try.underlying4 _), (trodAll_cons_mk (Below.trod laidOut (by kernel_rfl) (of_decide_eq_true (by kernel_rfl)) k0 bel lt0) (trodAll_cons_mk (Below.trod laidOut (by kernel_rfl) (of_decide_eq_true (by kernel_rfl)) k1 bel lt1) trodAll_mk0)), rfl, bel.frame _, fun h => by cases h⟩

theorem over : Rows.codecPartsRow.holds Try.pinned (OpenSpec.ofChange Rows.codecPartsSpec) :=
  OpenClaim.holds_of_wide 8 Try.f8 rfl rfl rfl rfl rfl rfl rfl ⟨rfl, rfl, rfl, rfl, rfl⟩ rfl rfl rfl rfl rfl (by kernel_rfl) Try.func8 (by kernel_rfl)
    (of_decide_eq_true (by kernel_rfl)) (by unfold Func.isWrapper; first | (rw [if_pos (by decide +kernel)]; kernel_rfl) | (rw [if_neg (by decide +kernel)]; exact ⟨rfl, rfl⟩))
    (fun os started H enc _ => lifted os started H enc)

/-- The statement. -/
theorem proved : Rows.CodecPartsSaid := over
#print axioms proved
end Go.Proofs.Ytclahpmghifehaa.codecParts
