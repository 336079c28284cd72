/-
  'CodecEnds' returns true at every input, and each argument reads behind the call as it read before. Conditions: none.
-/
import Derived.Test.YtclahpmghifehaaRows
import Derived.Test.YtclahpmghifehaaYLaid
import Derived.Test.YtclahpmghifehaaWL
import Derived.Test.YtclahpmghifehaaOpn
namespace Go.Proofs.Ytclahpmghifehaa.codecEnds
open Go.ChangeShapes Go.WideShapes Go.ChangeAt Go.RowKit
set_option linter.unusedVariables false

theorem zeroAll_next (l : List Int) (i : Nat) (h : i < l.length) : zeroAll (l.take (i + 1)) = (zeroAll (l.take i) && (l.getD i 0 == 0)) := by
  unfold zeroAll
  rw [List.take_add_one, List.getElem?_eq_getElem h, Option.toList_some, List.all_append]
  simp [List.getD, h]

set_option maxRecDepth 100000 in
set_option maxHeartbeats 3200000 in
theorem walk (w : World) (a0 : Option Addr) (len0 cap0 : Nat) (x0 : List Int) (e0 : x0.length = len0) (m0 : len0 ≤ cap0) (n0 : cap0 ≤ 140737488351232) (b0 : BS w (.slice a0 len0 cap0) x0) (z1 : Int) (za1 : 0 ≤ z1) (zb1 : z1 ≤ 255) :
    Calls Try.prog 7 #[.slice a0 len0 cap0, .int .u8 z1] w fun e w' => e = .returned (.bool true) ∧ Below w.heap.size w w' := by
  have HA := Lib.hid (alive7_any w)
  have HX := Lib.hid b0
  have HE := Lib.hid e0
  have HM := Lib.hid m0
  clear b0 e0 m0 n0
  by_cases hbig : 1000 < len0
  · have hbI : (1000 : Int) < (len0 : Int) := by omega
    clear hbig
    go_enter Try.func7, Try.ntmps7
    go_wp2_with fail
    refine HA.out.mono ?_
    rintro e w1 ⟨rfl, hb1⟩
    have HB1 := Lib.hid hb1
    clear hb1 HA
    go_wp2_with fail
    go_ret
    exact ⟨rfl, HB1.out⟩
  · have hsm : (len0 : Int) ≤ 1000 := by omega
    have HS := Lib.hid (show len0 ≤ 1000 by omega)
    clear hbig
    by_cases hmin : (len0 : Int) < z1
    · have HK := Lib.hid (Nat.le_refl len0)
      go_enter Try.func7, Try.ntmps7
      go_wp2_with fail
      refine HA.out.mono ?_
      rintro e w1 ⟨rfl, hb1⟩
      have HR1 := Lib.hid (rl_read w w1 _ x0 hb1 (HX.out.kept hb1) (by rw [HE.out]; have := HS.out; omega))
      clear hb1 HA
      go_wp2_with fail
      refine HR1.out.mono ?_
      rintro e w2 ⟨R, rfl, hr2, _⟩
      have HN2 := Lib.hid (rl_raw w w2 R x0 (len0 : Int) hr2 (by have := HS.out; have := HK.out; omega))
      rw [show rawA (len0 : Int) x0 = (x0.take len0, 0, x0.drop len0) by unfold rawA; rw [if_neg (by omega), if_neg (by rw [HE.out]; have := HK.out; omega)]; rfl] at HN2
      clear hr2 HR1
      go_wp2_with fail
      refine HN2.out.mono ?_
      rintro e w3 ⟨⟨v3, rfl, _⟩, hr3⟩
      have HR3 := Lib.hid hr3
      obtain ⟨a1, _, e1, _, B1⟩ := slice_cut w a0 len0 cap0 len0 len0 x0 HX.out HE.out HK.out (Nat.le_refl _) HM.out
      have e1 := e1 rfl
      have hfl : (x0.drop len0).length = len0 - len0 := by rw [List.length_drop, HE.out]
      rw [List.take_of_length_le (by omega)] at B1
      have B1 := B1.kept hr3.bel
      obtain ⟨m, hm⟩ : ∃ m, len0 - len0 = m := ⟨_, rfl⟩
      have hsub : (len0 : Int) - (len0 : Int) = (m : Int) := by have := HK.out; omega
      rw [hm] at e1 hfl B1
      generalize hL : x0.drop len0 = L at *
      have mI : (m : Int) ≤ 1000 := by omega
      have HFL := Lib.hid hfl
      have HB1 := Lib.hid B1
      clear hr3 HN2 hL hm hfl B1
      go_wp2_with fail
      clear e1
      go_loopw [9, 36] (fun v9 v36 wr => ∃ i : Nat, i ≤ m ∧ v36 = .int .i64 (i : Int) ∧ v9 = .bool (zeroAll (L.take i)) ∧ w3 = wr) (fun _ v _ => m - (intOf v).toNat)
      case atStart => exact ⟨0, by omega, rfl, rfl, rfl⟩
      case round =>
        obtain ⟨i, hi, rfl, rfl, rfl⟩ := hrel
        by_cases hlt : i < m
        · obtain ⟨b, off, rfl, hc⟩ : ∃ b off, a1 = some ⟨b, off, none⟩ ∧ w3.cell? ⟨b, off + i, none⟩ = some (.int .u8 (L.getD i 0)) := by
            obtain ⟨a', cap', hv, _, _, hcc⟩ := HB1.out
            injection hv with e1 e2 e3
            rcases hcc with h0 | ⟨b, off, ha, hcc⟩
            · have := HFL.out; rw [h0] at this; simp at this; omega
            · exact ⟨b, off, e1.trans ha, hcc i (by rw [HFL.out]; exact hlt)⟩
          have iI : (i : Int) < (m : Int) := by omega
          have i0 : (0 : Int) ≤ (i : Int) := by omega
          have HLT := Lib.hid hlt
          have HZ := Lib.hid (zeroAll_next L i (by rw [HFL.out]; exact hlt))
          generalize hx : L.getD i 0 = x at *
          generalize zeroAll (L.take i) = zb at *
          clear hi hlt hx
          cases zb
          all_goals
            go_wp2_with fail
            go_roundw
            case rel => exact ⟨i + 1, by have := HLT.out; omega, by go_num, by rw [HZ.out]; rfl, trivial⟩
            case measure => simp [intOf]; have := HLT.out; omega
        · obtain rfl : i = m := by omega
          have HEn := Lib.hid (rl_end w w3 R L HR3.out)
          have HLe := Lib.hid (rl_left w w3 R L HR3.out)
          rw [HFL.out] at HLe
          have hTK : L.take i = L := List.take_of_length_le (by rw [HFL.out]; omega)
          rw [hTK]
          generalize zeroAll L = zb at *
          have HB3 := Lib.hid HR3.out.bel
          clear hi hlt hTK
          cases zb
          all_goals
            go_wp2_with fail
            refine HEn.out.mono ?_
            rintro e w4 ⟨rfl, rfl⟩
            go_wp2_with fail
            refine HEn.out.mono ?_
            rintro e w5 ⟨rfl, rfl⟩
            go_wp2_with fail
            refine HLe.out.mono ?_
            rintro e w6 ⟨rfl, rfl⟩
            go_wp2_with fail
            go_ret
            exact ⟨rfl, HB3.out⟩
    · obtain ⟨k, rfl⟩ : ∃ k : Nat, z1 = (k : Int) := ⟨z1.toNat, by omega⟩
      have hmin2 : (k : Int) ≤ (len0 : Int) := by omega
      have HK := Lib.hid (show k ≤ len0 by omega)
      clear hmin
      go_enter Try.func7, Try.ntmps7
      go_wp2_with fail
      refine HA.out.mono ?_
      rintro e w1 ⟨rfl, hb1⟩
      have HR1 := Lib.hid (rl_read w w1 _ x0 hb1 (HX.out.kept hb1) (by rw [HE.out]; have := HS.out; omega))
      clear hb1 HA
      go_wp2_with fail
      refine HR1.out.mono ?_
      rintro e w2 ⟨R, rfl, hr2, _⟩
      have HN2 := Lib.hid (rl_raw w w2 R x0 (k : Int) hr2 (by have := HS.out; have := HK.out; omega))
      rw [show rawA (k : Int) x0 = (x0.take k, 0, x0.drop k) by unfold rawA; rw [if_neg (by omega), if_neg (by rw [HE.out]; have := HK.out; omega)]; rfl] at HN2
      clear hr2 HR1
      go_wp2_with fail
      refine HN2.out.mono ?_
      rintro e w3 ⟨⟨v3, rfl, _⟩, hr3⟩
      have HR3 := Lib.hid hr3
      obtain ⟨a1, _, e1, _, B1⟩ := slice_cut w a0 len0 cap0 k len0 x0 HX.out HE.out HK.out (Nat.le_refl _) HM.out
      have e1 := e1 rfl
      have hfl : (x0.drop k).length = len0 - k := by rw [List.length_drop, HE.out]
      rw [List.take_of_length_le (by omega)] at B1
      have B1 := B1.kept hr3.bel
      obtain ⟨m, hm⟩ : ∃ m, len0 - k = m := ⟨_, rfl⟩
      have hsub : (len0 : Int) - (k : Int) = (m : Int) := by have := HK.out; omega
      rw [hm] at e1 hfl B1
      generalize hL : x0.drop k = L at *
      have mI : (m : Int) ≤ 1000 := by omega
      have HFL := Lib.hid hfl
      have HB1 := Lib.hid B1
      clear hr3 HN2 hL hm hfl B1
      go_wp2_with fail
      clear e1
      go_loopw [9, 36] (fun v9 v36 wr => ∃ i : Nat, i ≤ m ∧ v36 = .int .i64 (i : Int) ∧ v9 = .bool (zeroAll (L.take i)) ∧ w3 = wr) (fun _ v _ => m - (intOf v).toNat)
      case atStart => exact ⟨0, by omega, rfl, rfl, rfl⟩
      case round =>
        obtain ⟨i, hi, rfl, rfl, rfl⟩ := hrel
        by_cases hlt : i < m
        · obtain ⟨b, off, rfl, hc⟩ : ∃ b off, a1 = some ⟨b, off, none⟩ ∧ w3.cell? ⟨b, off + i, none⟩ = some (.int .u8 (L.getD i 0)) := by
            obtain ⟨a', cap', hv, _, _, hcc⟩ := HB1.out
            injection hv with e1 e2 e3
            rcases hcc with h0 | ⟨b, off, ha, hcc⟩
            · have := HFL.out; rw [h0] at this; simp at this; omega
            · exact ⟨b, off, e1.trans ha, hcc i (by rw [HFL.out]; exact hlt)⟩
          have iI : (i : Int) < (m : Int) := by omega
          have i0 : (0 : Int) ≤ (i : Int) := by omega
          have HLT := Lib.hid hlt
          have HZ := Lib.hid (zeroAll_next L i (by rw [HFL.out]; exact hlt))
          generalize hx : L.getD i 0 = x at *
          generalize zeroAll (L.take i) = zb at *
          clear hi hlt hx
          cases zb
          all_goals
            go_wp2_with fail
            go_roundw
            case rel => exact ⟨i + 1, by have := HLT.out; omega, by go_num, by rw [HZ.out]; rfl, trivial⟩
            case measure => simp [intOf]; have := HLT.out; omega
        · obtain rfl : i = m := by omega
          have HEn := Lib.hid (rl_end w w3 R L HR3.out)
          have HLe := Lib.hid (rl_left w w3 R L HR3.out)
          rw [HFL.out] at HLe
          have hTK : L.take i = L := List.take_of_length_le (by rw [HFL.out]; omega)
          rw [hTK]
          generalize zeroAll L = zb at *
          have HB3 := Lib.hid HR3.out.bel
          clear hi hlt hTK
          cases zb
          all_goals
            go_wp2_with fail
            refine HEn.out.mono ?_
            rintro e w4 ⟨rfl, rfl⟩
            go_wp2_with fail
            refine HEn.out.mono ?_
            rintro e w5 ⟨rfl, rfl⟩
            go_wp2_with fail
            refine HLe.out.mono ?_
            rintro e w6 ⟨rfl, rfl⟩
            go_wp2_with fail
            go_ret
            exact ⟨rfl, HB3.out⟩
set_option maxRecDepth 100000 in
theorem lifted (os : Os) (started : os.Started) (H : Type) (enc : TypeId × Value → H) :
    ReturnsInHanded {} Try.checked os 7 .any (Rows.codecEndsSpec.pre6 enc Try.prog Try.f7 Rows.codecEndsRow.domain false) (Rows.codecEndsSpec.post enc Try.prog Try.f7 false true false false) := by
  refine returnsInHanded_of_change_sized (C := Try.checked) own started (by kernel_rfl) Try.func7
    (ChangeSpec.witness6 (enc := enc) (C := Try.checked) false ⟨#[], #[.slice none 0 0, .int .u8 0], []⟩ 8 (by kernel_rfl) (by kernel_rfl) (by kernel_rfl) (by kernel_rfl)) ?_
  intro W base args ds gs before hval0 hW hcnd hsz0 _
  have hsz : (DataW.weightsEach Try.prog (Try.f7.params.toList ++ Rows.codecEndsSpec.plain.varTypes Try.prog) (ds ++ gs)).all (· ≤ reachBytes) = true := hsz0
  clear hsz0
  have hval : ∀ (j : Nat) t v, Try.f7.params[j]? = some t → args[j]? = some v → Value.okWide Try.prog W .any base t v := hval0
  have hW' := hW
  obtain ⟨p, q, hA0, hV, rfl, hfz, hnd⟩ := hW
  have hA : DataW.TrodAll enc Try.prog W 0 (fun _ => true) true Try.f7.params.toList args.toList ds p := hA0
  rw [Try.params7] at hA hval hsz
  obtain ⟨v0, vs0, d0, ds0, p0, q0, hargs, rfl, rfl, h0, r0⟩ := trodAll_cons hA
  obtain ⟨v1, vs1, d1, ds1, p1, q1, rfl, rfl, rfl, h1, r1⟩ := trodAll_cons r0
  obtain ⟨rfl, rfl, rfl⟩ := trodAll_nil r1
  obtain rfl : args = #[v0, v1] := by cases args; simp_all
  obtain ⟨rfl, rfl⟩ := trodVars_none hV
  have k0 := h0
  have lt0 : ∀ x ∈ p0, x.block < W.heap.size := by obtain ⟨m, hm⟩ := k0; exact DataW.trod_lt m _ _ _ hm
  have k1 := h1
  have lt1 : ∀ x ∈ p1, x.block < W.heap.size := by obtain ⟨m, hm⟩ := k1; exact DataW.trod_lt m _ _ _ hm
  obtain ⟨a0, len0, cap0, x0, rfl, e0, m0, n0, b0⟩ := par_bytes (j := 0) (hval 0 25 v0 rfl rfl) h0 hsz rfl rfl
  obtain ⟨z1, rfl, za1, zb1⟩ := par_int (j := 1) .u8 _ _ Try.underlying5 wf_u8 (hval 1 5 v1 rfl rfl) h1 hsz rfl rfl
  clear hA0 hval0
  simp only [List.append_nil] at hW'
  refine (walk W a0 len0 cap0 x0 e0 m0 n0 b0 z1 za1 zb1).mono fun e W' ⟨he, bel⟩ => ?_
  subst he
  exact ⟨_, rfl, _, _, _, [], _, [], hW', trodAll_mk1 (shut_bool Try.underlying4 _), (trodAll_cons_mk (Below.trod laidOut (by kernel_rfl) (of_decide_eq_true (by kernel_rfl)) k0 bel lt0) (trodAll_cons_mk (Below.trod laidOut (by kernel_rfl) (of_decide_eq_true (by kernel_rfl)) k1 bel lt1) trodAll_mk0)), rfl, bel.frame _, fun h => by cases h⟩

theorem over : Rows.codecEndsRow.holds Try.pinned (OpenSpec.ofChange Rows.codecEndsSpec) :=
  OpenClaim.holds_of_wide 7 Try.f7 rfl rfl rfl rfl rfl rfl rfl ⟨rfl, rfl, rfl, rfl, rfl⟩ rfl rfl rfl rfl rfl (by kernel_rfl) Try.func7 (by kernel_rfl)
    (of_decide_eq_true (by kernel_rfl)) (by unfold Func.isWrapper; first | (rw [if_pos (by decide +kernel)]; kernel_rfl) | (rw [if_neg (by decide +kernel)]; exact ⟨rfl, rfl⟩))
    (fun os started H enc _ => lifted os started H enc)

/-- The statement. -/
theorem proved : Rows.CodecEndsSaid := over
#print axioms proved
end Go.Proofs.Ytclahpmghifehaa.codecEnds
