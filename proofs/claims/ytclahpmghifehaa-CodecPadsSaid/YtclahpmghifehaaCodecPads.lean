/-
  'CodecPads' returns true at every input, and each argument reads behind the call as it read before. Conditions: none.
-/
import Derived.Test.YtclahpmghifehaaRows
import Derived.Test.YtclahpmghifehaaYLaid
import Derived.Test.YtclahpmghifehaaWL
import Derived.Test.YtclahpmghifehaaOpn
namespace Go.Proofs.Ytclahpmghifehaa.codecPads
open Go.ChangeShapes Go.WideShapes Go.ChangeAt Go.RowKit
set_option linter.unusedVariables false

theorem zeroAll_rep (n : Nat) : zeroAll (List.replicate n 0) = true := by
  unfold zeroAll
  rw [List.all_eq_true]
  intro z hz
  obtain ⟨_, rfl⟩ := List.mem_replicate.1 hz
  rfl

set_option maxRecDepth 100000 in
set_option maxHeartbeats 3200000 in
theorem walk (w : World) (a0 : Option Addr) (len0 cap0 : Nat) (x0 : List Int) (e0 : x0.length = len0) (m0 : len0 ≤ cap0) (n0 : cap0 ≤ 140737488351232) (b0 : BS w (.slice a0 len0 cap0) x0) (z1 : Int) (za1 : 0 ≤ z1) (zb1 : z1 ≤ 65535) :
    Calls Try.prog 9 #[.slice a0 len0 cap0, .int .u16 z1] w fun e w' => e = .returned (.bool true) ∧ Below w.heap.size w w' := by
  obtain ⟨n, hn⟩ : ∃ n : Nat, z1 % 2000 = (n : Int) := ⟨(z1 % 2000).toNat, by omega⟩
  have n2 : n < 2000 := by omega
  have nI : (n : Int) < 2000 := by omega
  have HN := Lib.hid n2
  have hz := zero_writer
  have HA := Lib.hid (alive7_any w)
  have HX := Lib.hid b0
  have HE := Lib.hid e0
  have HM := Lib.hid m0
  clear b0 e0 m0 n0
  by_cases hbig : 1000 < len0
  · have hbI : (1000 : Int) < (len0 : Int) := by omega
    clear hbig
    go_enter Try.func9, Try.ntmps9
    go_wp2_with fail
    refine HA.out.mono ?_
    rintro e w1 ⟨rfl, hb1⟩
    have HB1 := Lib.hid hb1
    clear hb1 HA
    go_wp2_with fail
    go_ret
    exact ⟨rfl, HB1.out⟩
  · have hsm : (len0 : Int) ≤ 1000 := by omega
    have HS := Lib.hid (show len0 ≤ 1000 by omega)
    clear hbig
    by_cases hlt : n < len0
    · have hltI : (n : Int) < (len0 : Int) := by omega
      have HP := Lib.hid (show padW x0.length (n : Int) = ([], 2) by unfold padW; rw [if_pos (.inr (by rw [HE.out]; omega))])
      clear hlt
      go_enter Try.func9, Try.ntmps9
      go_wp2_with fail
      refine HA.out.mono ?_
      rintro e w1 ⟨rfl, hb1⟩
      have hb1a := hb1.alloc hb1.size (.cells #[.slice none 0 0] 27)
      have HR := Lib.hid (wl_raw w _ w1.heap.size [] x0 _ (wl_new hb1) (HX.out.kept hb1a) (by rw [HE.out]; have := HS.out; simp; omega))
      rw [List.nil_append] at HR
      clear hb1 hb1a HA
      go_wp2_with fail
      refine HR.out.mono ?_
      rintro e w2 ⟨rfl, h2⟩
      have HD := Lib.hid (wl_pad w w2 _ _ (n : Int) h2 (by rw [HE.out]; have := HS.out; omega))
      rw [HP.out, List.append_nil] at HD
      clear h2 HR
      generalize w1.heap.size = P at *
      go_wp2_with fail
      refine HD.out.mono ?_
      rintro e w3 ⟨rfl, h3⟩
      have HY := Lib.hid (wl_bytes w w3 _ _ h3 (by rw [HE.out]; have := HS.out; omega))
      have HB3 := Lib.hid h3.bel
      clear h3 HD
      go_wp2_with fail
      refine HY.out.mono ?_
      rintro e w4 ⟨a, c, rfl, _, hbs, h4, hb4⟩
      have HB4 := Lib.hid h4.bel
      have HQ := Lib.hid (same_eq w4 _ _ x0 hbs (HX.out.kept HB4.out))
      rw [HE.out] at HQ ⊢
      clear hbs h4 hb4 HY
      go_wp2_with fail
      refine HQ.out.mono ?_
      rintro e w5 ⟨rfl, rfl⟩
      go_wp2_with fail
      go_ret
      exact ⟨rfl, HB4.out⟩
    · obtain ⟨m, rfl⟩ : ∃ m, n = len0 + m := ⟨n - len0, by omega⟩
      have hnI : ((len0 + m : Nat) : Int) = (len0 : Int) + (m : Int) := by omega
      rw [hnI] at hn nI
      have hge : (len0 : Int) ≤ (len0 : Int) + (m : Int) := by omega
      have HP := Lib.hid (show padW x0.length ((len0 : Int) + (m : Int)) = (List.replicate m 0, 0) by
        unfold padW; rw [HE.out, if_neg (by omega), show ((len0 : Int) + (m : Int)).toNat - len0 = m by omega])
      have HP2 := Lib.hid (show padW (x0 ++ List.replicate m 0).length ((len0 : Int) + (m : Int)) = ([], 0) by
        unfold padW; rw [List.length_append, List.length_replicate, HE.out, if_neg (by omega), show ((len0 : Int) + (m : Int)).toNat - (len0 + m) = 0 by omega]; rfl)
      have HLL := Lib.hid (show (x0 ++ List.replicate m 0).length = len0 + m by rw [List.length_append, List.length_replicate, HE.out])
      have HT := Lib.hid (show ((x0 ++ List.replicate m 0).drop 0).take (len0 - 0) = x0 by rw [List.drop_zero, Nat.sub_zero, ← HE.out, List.take_left])
      have HD2 := Lib.hid (show ((x0 ++ List.replicate m 0).drop len0).take (len0 + m - len0) = (List.replicate m 0 : List Int) by rw [← HE.out, List.drop_left, List.take_of_length_le]; simp)
      clear hlt hnI n2
      go_enter Try.func9, Try.ntmps9
      go_wp2_with fail
      refine HA.out.mono ?_
      rintro e w1 ⟨rfl, hb1⟩
      have hb1a := hb1.alloc hb1.size (.cells #[.slice none 0 0] 27)
      have HR := Lib.hid (wl_raw w _ w1.heap.size [] x0 _ (wl_new hb1) (HX.out.kept hb1a) (by rw [HE.out]; have := HS.out; simp; omega))
      rw [List.nil_append] at HR
      clear hb1 hb1a HA
      go_wp2_with fail
      refine HR.out.mono ?_
      rintro e w2 ⟨rfl, h2⟩
      have HD := Lib.hid (wl_pad w w2 _ _ ((len0 : Int) + (m : Int)) h2 (by rw [HE.out]; have := HS.out; omega))
      rw [HP.out] at HD
      clear h2 HR
      generalize w1.heap.size = P at *
      go_wp2_with fail
      refine HD.out.mono ?_
      rintro e w3 ⟨rfl, h3⟩
      generalize hL : x0 ++ List.replicate m 0 = L at *
      clear hL
      have HY := Lib.hid (wl_bytes w w3 _ _ h3 (by rw [HLL.out]; have := HS.out; have := HN.out; omega))
      rw [HLL.out] at HY
      clear h3 HD
      go_wp2_with fail
      refine HY.out.mono ?_
      rintro e w4 ⟨a, c, rfl, hc4, hbs, h4, hb4⟩
      obtain ⟨a1, _, _, e1, B1⟩ := slice_cut w4 a (len0 + m) c 0 len0 L hbs HLL.out (Nat.zero_le _) (by omega) hc4
      obtain ⟨a2, _, e2, _, B2⟩ := slice_cut w4 a (len0 + m) c len0 (len0 + m) L hbs HLL.out (by omega) (by omega) hc4
      rw [HT.out] at B1
      rw [HD2.out] at B2
      have e1 := e1 rfl
      have e2 := e2 rfl
      rw [show len0 + m - len0 = m by omega] at e2 B2
      simp only [Nat.sub_zero] at e1 B1
      have HB4 := Lib.hid h4.bel
      have HQ := Lib.hid (same_eq w4 _ _ x0 B1 (HX.out.kept HB4.out))
      have HRD := Lib.hid (rl_read w w4 _ _ h4.bel B2 (by rw [List.length_replicate]; have := HN.out; omega))
      have H4 := Lib.hid h4
      clear hbs h4 hb4 HY hc4 B1 B2
      go_wp2_with fail
      refine HQ.out.mono ?_
      rintro e w5 ⟨rfl, rfl⟩
      clear HQ
      go_wp2_with fail
      refine HRD.out.mono ?_
      rintro e w6 ⟨R, rfl, hr, hb6⟩
      have HE6 := Lib.hid (rl_end w w6 R _ hr)
      rw [zeroAll_rep] at HE6
      have h6 := H4.out.below hb6
      have HD6 := Lib.hid (wl_pad w w6 _ _ ((len0 : Int) + (m : Int)) h6 (by rw [HLL.out]; have := HN.out; omega))
      rw [HP2.out, List.append_nil] at HD6
      clear hr hb6 h6 HRD e1 e2
      go_wp2_with fail
      refine HE6.out.mono ?_
      rintro e w7 ⟨rfl, rfl⟩
      clear HE6
      go_wp2_with fail
      refine HD6.out.mono ?_
      rintro e w8 ⟨rfl, h8⟩
      have HY8 := Lib.hid (wl_bytes w w8 _ _ h8 (by rw [HLL.out]; have := HN.out; omega))
      rw [HLL.out] at HY8
      clear h8 HD6
      go_wp2_with fail
      refine HY8.out.mono ?_
      rintro e w9 ⟨a9, c9, rfl, _, _, h9, _⟩
      have HB9 := Lib.hid h9.bel
      clear h9 HY8
      go_wp2_with fail
      go_ret
      exact ⟨rfl, HB9.out⟩
set_option maxRecDepth 100000 in
theorem lifted (os : Os) (started : os.Started) (H : Type) (enc : TypeId × Value → H) :
    ReturnsInHanded {} Try.checked os 9 .any (Rows.codecPadsSpec.pre6 enc Try.prog Try.f9 Rows.codecPadsRow.domain false) (Rows.codecPadsSpec.post enc Try.prog Try.f9 false true false false) := by
  refine returnsInHanded_of_change_sized (C := Try.checked) own started (by kernel_rfl) Try.func9
    (ChangeSpec.witness6 (enc := enc) (C := Try.checked) false ⟨#[], #[.slice none 0 0, .int .u16 0], []⟩ 8 (by kernel_rfl) (by kernel_rfl) (by kernel_rfl) (by kernel_rfl)) ?_
  intro W base args ds gs before hval0 hW hcnd hsz0 _
  have hsz : (DataW.weightsEach Try.prog (Try.f9.params.toList ++ Rows.codecPadsSpec.plain.varTypes Try.prog) (ds ++ gs)).all (· ≤ reachBytes) = true := hsz0
  clear hsz0
  have hval : ∀ (j : Nat) t v, Try.f9.params[j]? = some t → args[j]? = some v → Value.okWide Try.prog W .any base t v := hval0
  have hW' := hW
  obtain ⟨p, q, hA0, hV, rfl, hfz, hnd⟩ := hW
  have hA : DataW.TrodAll enc Try.prog W 0 (fun _ => true) true Try.f9.params.toList args.toList ds p := hA0
  rw [Try.params9] at hA hval hsz
  obtain ⟨v0, vs0, d0, ds0, p0, q0, hargs, rfl, rfl, h0, r0⟩ := trodAll_cons hA
  obtain ⟨v1, vs1, d1, ds1, p1, q1, rfl, rfl, rfl, h1, r1⟩ := trodAll_cons r0
  obtain ⟨rfl, rfl, rfl⟩ := trodAll_nil r1
  obtain rfl : args = #[v0, v1] := by cases args; simp_all
  obtain ⟨rfl, rfl⟩ := trodVars_none hV
  have k0 := h0
  have lt0 : ∀ x ∈ p0, x.block < W.heap.size := by obtain ⟨m, hm⟩ := k0; exact DataW.trod_lt m _ _ _ hm
  have k1 := h1
  have lt1 : ∀ x ∈ p1, x.block < W.heap.size := by obtain ⟨m, hm⟩ := k1; exact DataW.trod_lt m _ _ _ hm
  obtain ⟨a0, len0, cap0, x0, rfl, e0, m0, n0, b0⟩ := par_bytes (j := 0) (hval 0 25 v0 rfl rfl) h0 hsz rfl rfl
  obtain ⟨z1, rfl, za1, zb1⟩ := par_int (j := 1) .u16 _ _ Try.underlying64 wf_u16 (hval 1 64 v1 rfl rfl) h1 hsz rfl rfl
  clear hA0 hval0
  simp only [List.append_nil] at hW'
  refine (walk W a0 len0 cap0 x0 e0 m0 n0 b0 z1 za1 zb1).mono fun e W' ⟨he, bel⟩ => ?_
  subst he
  exact ⟨_, rfl, _, _, _, [], _, [], hW', trodAll_mk1 (shut_bool Try.underlying4 _), (trodAll_cons_mk (Below.trod laidOut (by kernel_rfl) (of_decide_eq_true (by kernel_rfl)) k0 bel lt0) (trodAll_cons_mk (Below.trod laidOut (by kernel_rfl) (of_decide_eq_true (by kernel_rfl)) k1 bel lt1) trodAll_mk0)), rfl, bel.frame _, fun h => by cases h⟩

theorem over : Rows.codecPadsRow.holds Try.pinned (OpenSpec.ofChange Rows.codecPadsSpec) :=
  OpenClaim.holds_of_wide 9 Try.f9 rfl rfl rfl rfl rfl rfl rfl ⟨rfl, rfl, rfl, rfl, rfl⟩ rfl rfl rfl rfl rfl (by kernel_rfl) Try.func9 (by kernel_rfl)
    (of_decide_eq_true (by kernel_rfl)) (by unfold Func.isWrapper; first | (rw [if_pos (by decide +kernel)]; kernel_rfl) | (rw [if_neg (by decide +kernel)]; exact ⟨rfl, rfl⟩))
    (fun os started H enc _ => lifted os started H enc)

/-- The statement. -/
theorem proved : Rows.CodecPadsSaid := over
#print axioms proved
end Go.Proofs.Ytclahpmghifehaa.codecPads
