/-
  'CodecCuts' returns true at every input, and each argument reads behind the call as it read before. Conditions: none.
-/
import Derived.Test.YtclahpmghifehaaRows
import Derived.Test.YtclahpmghifehaaYLaid
import Derived.Test.YtclahpmghifehaaWL
import Derived.Test.YtclahpmghifehaaOpn
namespace Go.Proofs.Ytclahpmghifehaa.codecCuts
open Go.ChangeShapes Go.WideShapes Go.ChangeAt Go.RowKit
set_option linter.unusedVariables false

theorem bstr_txt (s : ByteArray) : strOfNums (btxt s) = s := by
  have h : (strOfNums (btxt s)).data.toList = s.data.toList := by
    rw [strOfNums_data]
    unfold btxt
    rw [List.map_map]
    conv => rhs; rw [← List.map_id s.data.toList]
    apply List.map_congr_left
    intro b _
    simp
  cases s with
  | mk d =>
    have h2 : (strOfNums (btxt ⟨d⟩)).data = d := Array.toList_inj.1 h
    calc strOfNums (btxt ⟨d⟩) = ⟨(strOfNums (btxt ⟨d⟩)).data⟩ := rfl
      _ = ⟨d⟩ := by rw [h2]
theorem strA_cut (s : ByteArray) (k : Nat) (hk : k < 1 + s.size) : strA (((s.size : Int) :: btxt s).take k) = (⟨#[]⟩, 3, ((s.size : Int) :: btxt s).take k) := by
  unfold strA
  rw [if_pos]
  cases k with
  | zero => exact .inl rfl
  | succ k =>
    right
    simp only [List.take_succ_cons, List.length_cons, List.getD_cons_zero, List.length_take, btxt_length]
    omega
theorem strA_all (s : ByteArray) : strA ((s.size : Int) :: btxt s) = (s, 0, []) := by
  unfold strA
  rw [if_neg (by simp [btxt_length]; omega)]
  simp only [List.getD_cons_zero, Int.toNat_natCast, List.drop_succ_cons, List.drop_zero]
  rw [List.take_of_length_le (by rw [btxt_length]; omega), bstr_txt, List.drop_eq_nil_of_le (by simp [btxt_length]; omega)]

set_option maxRecDepth 100000 in
set_option maxHeartbeats 3200000 in
theorem walk (w : World) (s0 : ByteArray) (z0 : s0.size ≤ 140737488351232) (z1 : Int) (za1 : 0 ≤ z1) (zb1 : z1 ≤ 255) :
    Calls Try.prog 6 #[.string s0, .int .u8 z1] w fun e w' => e = .returned (.bool true) ∧ Below w.heap.size w w' := by
  have hz := zero_writer
  have HA := Lib.hid (alive7_any w)
  have HZ0 := Lib.hid z0
  have HT := Lib.hid (And.intro za1 zb1)
  have sI : (s0.size : Int) ≤ 140737488351232 := by omega
  by_cases hbig : 255 < s0.size
  · have hbI : (255 : Int) < (s0.size : Int) := by omega
    clear hbig z0
    go_enter Try.func6, Try.ntmps6
    go_wp2_with fail
    refine HA.out.mono ?_
    rintro e w1 ⟨rfl, hb1⟩
    have HB1 := Lib.hid hb1
    clear hb1 HA
    go_wp2_with fail
    go_ret
    exact ⟨rfl, HB1.out⟩
  · obtain ⟨n, hn⟩ : ∃ n, 1 + s0.size = n := ⟨_, rfl⟩
    have nI : (n : Int) ≤ 256 := by omega
    have n0 : (0 : Int) ≤ (n : Int) := by omega
    have n1 : (0 : Int) < (n : Int) + 1 := by omega
    have n2 : (((n : Int) + 1 : Int) == 0) = false := by simp; omega
    have hsm : (s0.size : Int) ≤ 255 := by omega
    have HW := Lib.hid (show strW s0 = ((s0.size : Int) :: btxt s0, 0) by unfold strW; rw [if_neg hbig])
    have HSA := Lib.hid (strA_all s0)
    have HSC := Lib.hid (strA_cut s0)
    rw [hn] at HSC
    have HLL := Lib.hid (show ((s0.size : Int) :: btxt s0).length = n by simp [btxt_length]; omega)
    generalize hL : (s0.size : Int) :: btxt s0 = L at *
    obtain ⟨k, hk⟩ : ∃ k : Nat, z1 % ((n : Int) + 1) = (k : Int) := ⟨(z1 % ((n : Int) + 1)).toNat, by have := Int.emod_nonneg z1 (show (n : Int) + 1 ≠ 0 by omega); omega⟩
    have hk1 : k ≤ n := by have := Int.emod_lt_of_pos z1 n1; omega
    have kI : (k : Int) ≤ (n : Int) := by omega
    have HK := Lib.hid hk1
    have HN := Lib.hid (show n ≤ 256 by omega)
    clear hbig z0 hL hk1 hn
    by_cases hkn : k = n
    · subst hkn
      have HTK := Lib.hid (show L.take k = L by rw [List.take_of_length_le (by rw [HLL.out]; omega)])
      go_enter Try.func6, Try.ntmps6
      go_wp2_with fail
      refine HA.out.mono ?_
      rintro e w1 ⟨rfl, hb1⟩
      have HR := Lib.hid (wl_str w _ w1.heap.size [] s0 (wl_new hb1) HZ0.out (by simp))
      rw [HW.out, List.nil_append] at HR
      clear hb1 HA
      go_wp2_with fail
      refine HR.out.mono ?_
      rintro e w2 ⟨rfl, h2⟩
      have HY := Lib.hid (wl_bytes w w2 _ _ h2 (by rw [HLL.out]; have := HN.out; omega))
      rw [HLL.out] at HY
      clear h2 HR
      generalize w1.heap.size = P at *
      go_wp2_with fail
      refine HY.out.mono ?_
      rintro e w3 ⟨a, c, rfl, hc3, hbs, h3, _⟩
      obtain ⟨a1, _, _, e1, B1⟩ := slice_cut w3 a k c 0 k L hbs HLL.out (Nat.zero_le _) (by omega) hc3
      have e1 := e1 rfl
      simp only [Nat.sub_zero, List.drop_zero] at e1 B1
      rw [HTK.out] at B1
      have HRD := Lib.hid (rl_read w w3 _ _ h3.bel B1 (by rw [HLL.out]; have := HN.out; omega))
      clear hbs h3 hc3 B1 HY
      go_wp2_with fail
      refine HRD.out.mono ?_
      rintro e w4 ⟨R, rfl, hr4, _⟩
      have HS4 := Lib.hid (rl_str w w4 R _ hr4)
      rw [HSA.out] at HS4
      clear hr4 HRD e1
      go_wp2_with fail
      refine HS4.out.mono ?_
      rintro e w5 ⟨rfl, hr5⟩
      have HE5 := Lib.hid (rl_left w w5 R _ hr5)
      have HB5 := Lib.hid hr5.bel
      clear hr5 HS4
      go_wp2_with fail
      refine HE5.out.mono ?_
      rintro e w6 ⟨rfl, rfl⟩
      go_wp2_with fail
      go_ret
      exact ⟨by simp, HB5.out⟩
    · have hlt : k < n := by omega
      have hkb : ((k : Int) == (n : Int)) = false := by simp; omega
      have HSK := Lib.hid (HSC.out k hlt)
      have HLK := Lib.hid (show (L.take k).length = k by rw [List.length_take, HLL.out]; omega)
      have hkI : (k : Int) < (n : Int) := by omega
      clear hkn hlt HSC
      go_enter Try.func6, Try.ntmps6
      go_wp2_with fail
      refine HA.out.mono ?_
      rintro e w1 ⟨rfl, hb1⟩
      have HR := Lib.hid (wl_str w _ w1.heap.size [] s0 (wl_new hb1) HZ0.out (by simp))
      rw [HW.out, List.nil_append] at HR
      clear hb1 HA
      go_wp2_with fail
      refine HR.out.mono ?_
      rintro e w2 ⟨rfl, h2⟩
      have HY := Lib.hid (wl_bytes w w2 _ _ h2 (by rw [HLL.out]; have := HN.out; omega))
      rw [HLL.out] at HY
      clear h2 HR
      generalize w1.heap.size = P at *
      go_wp2_with fail
      refine HY.out.mono ?_
      rintro e w3 ⟨a, c, rfl, hc3, hbs, h3, _⟩
      obtain ⟨a1, _, _, e1, B1⟩ := slice_cut w3 a n c 0 k L hbs HLL.out (Nat.zero_le _) HK.out hc3
      have e1 := e1 rfl
      simp only [Nat.sub_zero, List.drop_zero] at e1 B1
      have HRD := Lib.hid (rl_read w w3 _ _ h3.bel B1 (by rw [HLK.out]; have := HN.out; have := HK.out; omega))
      clear hbs h3 hc3 B1 HY
      go_wp2_with fail
      refine HRD.out.mono ?_
      rintro e w4 ⟨R, rfl, hr4, _⟩
      have HS4 := Lib.hid (rl_str w w4 R _ hr4)
      rw [HSK.out] at HS4
      clear hr4 HRD e1
      go_wp2_with fail
      refine HS4.out.mono ?_
      rintro e w5 ⟨rfl, hr5⟩
      have HE5 := Lib.hid (rl_left w w5 R _ hr5)
      rw [HLK.out] at HE5
      have HB5 := Lib.hid hr5.bel
      clear hr5 HS4
      go_wp2_with fail
      refine HE5.out.mono ?_
      rintro e w6 ⟨rfl, rfl⟩
      go_wp2_with fail
      go_ret
      exact ⟨by simp, HB5.out⟩
set_option maxRecDepth 100000 in
theorem lifted (os : Os) (started : os.Started) (H : Type) (enc : TypeId × Value → H) :
    ReturnsInHanded {} Try.checked os 6 .any (Rows.codecCutsSpec.pre6 enc Try.prog Try.f6 Rows.codecCutsRow.domain false) (Rows.codecCutsSpec.post enc Try.prog Try.f6 false true false false) := by
  refine returnsInHanded_of_change_sized (C := Try.checked) own started (by kernel_rfl) Try.func6
    (ChangeSpec.witness6 (enc := enc) (C := Try.checked) false ⟨#[], #[.string ⟨#[]⟩, .int .u8 0], []⟩ 8 (by kernel_rfl) (by kernel_rfl) (by kernel_rfl) (by kernel_rfl)) ?_
  intro W base args ds gs before hval0 hW hcnd hsz0 _
  have hsz : (DataW.weightsEach Try.prog (Try.f6.params.toList ++ Rows.codecCutsSpec.plain.varTypes Try.prog) (ds ++ gs)).all (· ≤ reachBytes) = true := hsz0
  clear hsz0
  have hval : ∀ (j : Nat) t v, Try.f6.params[j]? = some t → args[j]? = some v → Value.okWide Try.prog W .any base t v := hval0
  have hW' := hW
  obtain ⟨p, q, hA0, hV, rfl, hfz, hnd⟩ := hW
  have hA : DataW.TrodAll enc Try.prog W 0 (fun _ => true) true Try.f6.params.toList args.toList ds p := hA0
  rw [Try.params6] at hA hval hsz
  obtain ⟨v0, vs0, d0, ds0, p0, q0, hargs, rfl, rfl, h0, r0⟩ := trodAll_cons hA
  obtain ⟨v1, vs1, d1, ds1, p1, q1, rfl, rfl, rfl, h1, r1⟩ := trodAll_cons r0
  obtain ⟨rfl, rfl, rfl⟩ := trodAll_nil r1
  obtain rfl : args = #[v0, v1] := by cases args; simp_all
  obtain ⟨rfl, rfl⟩ := trodVars_none hV
  have k0 := h0
  have lt0 : ∀ x ∈ p0, x.block < W.heap.size := by obtain ⟨m, hm⟩ := k0; exact DataW.trod_lt m _ _ _ hm
  have k1 := h1
  have lt1 : ∀ x ∈ p1, x.block < W.heap.size := by obtain ⟨m, hm⟩ := k1; exact DataW.trod_lt m _ _ _ hm
  obtain ⟨s0, rfl, z0⟩ := par_str (j := 0) Try.underlying9 (hval 0 9 v0 rfl rfl) h0 hsz rfl rfl
  obtain ⟨z1, rfl, za1, zb1⟩ := par_int (j := 1) .u8 _ _ Try.underlying5 wf_u8 (hval 1 5 v1 rfl rfl) h1 hsz rfl rfl
  clear hA0 hval0
  simp only [List.append_nil] at hW'
  refine (walk W s0 z0 z1 za1 zb1).mono fun e W' ⟨he, bel⟩ => ?_
  subst he
  exact ⟨_, rfl, _, _, _, [], _, [], hW', trodAll_mk1 (shut_bool Try.underlying4 _), (trodAll_cons_mk (Below.trod laidOut (by kernel_rfl) (of_decide_eq_true (by kernel_rfl)) k0 bel lt0) (trodAll_cons_mk (Below.trod laidOut (by kernel_rfl) (of_decide_eq_true (by kernel_rfl)) k1 bel lt1) trodAll_mk0)), rfl, bel.frame _, fun h => by cases h⟩

theorem over : Rows.codecCutsRow.holds Try.pinned (OpenSpec.ofChange Rows.codecCutsSpec) :=
  OpenClaim.holds_of_wide 6 Try.f6 rfl rfl rfl rfl rfl rfl rfl ⟨rfl, rfl, rfl, rfl, rfl⟩ rfl rfl rfl rfl rfl (by kernel_rfl) Try.func6 (by kernel_rfl)
    (of_decide_eq_true (by kernel_rfl)) (by unfold Func.isWrapper; first | (rw [if_pos (by decide +kernel)]; kernel_rfl) | (rw [if_neg (by decide +kernel)]; exact ⟨rfl, rfl⟩))
    (fun os started H enc _ => lifted os started H enc)

/-- The statement. -/
theorem proved : Rows.CodecCutsSaid := over
#print axioms proved
end Go.Proofs.Ytclahpmghifehaa.codecCuts
