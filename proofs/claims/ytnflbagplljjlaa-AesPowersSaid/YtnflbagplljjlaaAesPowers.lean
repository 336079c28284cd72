/-
  'AesPowers' returns true at every input, and each argument reads behind the call as it read before. Conditions: none.
-/
import Derived.Test.YtnflbagplljjlaaRows
import Derived.Test.YtnflbagplljjlaaYLaid
import Derived.Test.YtnflbagplljjlaaYAlive
namespace Go.Proofs.Ytnflbagplljjlaa.aesPowers
open Go.ChangeShapes Go.WideShapes Go.ChangeAt Go.RowKit
set_option linter.unusedVariables false

/-- n turned copies and the byte itself, summed. -/
def turnsY (v : BitVec 8) : Nat → BitVec 8
  | 0 => v
  | n + 1 => turnsY v n ^^^ (v <<< (n + 1) ||| v >>> (8 - (n + 1)))
theorem turnsY_four (v : BitVec 8) : turnsY v 4 ^^^ 0x63 = affine v := rfl
theorem gpow_255 : ∀ a, a ≠ 0 → gm (ginv a) a = 1 := fun a h => by rw [gm_comm]; exact ginv_mul a h
theorem pow_nil : ∀ n, gpow 0 (n + 1) = 0 := fun n => gm_nil _
theorem turn_step (m : Nat) (v : BitVec 8) : bits BinOp.or IntKind.u8 (yv v * 2 ^ m % 256) (yv v / 2 ^ (8 - m)) = yv (v <<< m ||| v >>> (8 - m)) := by
  rw [← yv_or, ← yv_shl, ← yv_shr, IntKind.wrap_u8]

set_option maxRecDepth 100000 in
set_option maxHeartbeats 3200000 in
theorem walk (b0 : BitVec 8) (w : World) :
    Calls Try.prog 9 #[.int .u8 (yv b0)] w fun e w' => e = .returned (.bool true) ∧ Below w.heap.size w w' := by
  have H0 := Lib.hid (yv_zero b0)
  go_enter Try.func9, Try.ntmps9
  go_wp2_with fail
  refine (alive4_any _).mono ?_
  rintro e w1 ⟨rfl, hb1⟩
  have HB := Lib.hid hb1
  clear hb1
  go_wp2_with fail
  go_loopw [3, 4, 10] (fun v3 v4 v10 wr => wr = w1 ∧ ∃ i : Nat, i ≤ 255 ∧ v10 = .int .i64 (i : Nat) ∧ v3 = .int .u8 (yv (gpow b0 i)) ∧ v4 = .int .u8 (if i = 255 then yv (ginv b0) else 0)) (fun _ _ v _ => 255 - (intOf v).toNat)
  case atStart => exact ⟨rfl, 0, by omega, rfl, rfl, rfl⟩
  case round =>
    obtain ⟨rfl, i, hi, rfl, rfl, rfl⟩ := hrel
    by_cases hlt : i < 255
    · have HC := Lib.hid (show ∀ w, Calls Try.prog 12 #[.int .u8 (yv (gpow b0 i)), .int .u8 (yv b0)] w fun e w' => e = .returned (.int .u8 (yv (gpow b0 (i + 1)))) ∧ w' = w from fun w => times_any (gpow b0 i) b0 w)
      have hiI : (i : Int) < 255 := by omega
      have hi0 : (0 : Int) ≤ (i : Int) := by omega
      have HLT := Lib.hid hlt
      rw [if_neg (by omega)]
      have HQ := Lib.hid (show ∃ q, gpow b0 (i + 1) = q from ⟨_, rfl⟩)
      by_cases h4 : i = 254
      · have HV := Lib.hid (show gpow b0 i = ginv b0 by rw [h4, gpow_254])
        have e4 : (i : Int) = 254 := by omega
        have HH := Lib.hid h4
        obtain ⟨q, hq⟩ := HQ.out
        rw [hq] at HC
        have HQQ := Lib.hid hq
        generalize gpow b0 i = p at *
        clear hlt hi h4 hq
        go_wp2_with fail
        refine (HC.out _).mono ?_
        rintro e w2 ⟨rfl, rfl⟩
        go_wp2_with fail
        go_roundw
        case rel => exact ⟨by first | rfl | trivial, i + 1, by have := HLT.out; omega, by rw [HH.out]; rfl, by rw [HQQ.out], by rw [HH.out, HV.out]; rfl⟩
        case measure => simp [intOf]; try omega
      · have e4 : ¬ (i : Int) = 254 := by omega
        have HH := Lib.hid h4
        obtain ⟨q, hq⟩ := HQ.out
        rw [hq] at HC
        have HQQ := Lib.hid hq
        generalize gpow b0 i = p at *
        clear hlt hi h4 hq
        go_wp2_with fail
        refine (HC.out _).mono ?_
        rintro e w2 ⟨rfl, rfl⟩
        go_wp2_with fail
        go_roundw
        case rel => exact ⟨by first | rfl | trivial, i + 1, by have := HLT.out; omega, by go_num, by rw [HQQ.out], by rw [if_neg (by have := HH.out; omega)]⟩
        case measure => simp [intOf]; omega
    · have HI := Lib.hid (show i = 255 by omega)
      have hge : (255 : Int) ≤ (i : Int) := by omega
      rw [if_pos (by omega)]
      by_cases hz : b0 = 0
      · have e0 : yv b0 = 0 := H0.out.2 hz
        have e1 : yv (gpow b0 i) = 0 := by rw [HI.out, hz, pow_nil]; rfl
        have C0 := Lib.hid (show ∀ w, Calls Try.prog 14 #[.int .u8 0] w fun e w' => e = .returned (.int .u8 99) ∧ w' = w from fun w => by have h := box_any 0 w; rw [show yv (sbox 0) = 99 from by decide +kernel] at h; exact h)
        generalize yv (gpow b0 i) = p at *
        generalize yv (ginv b0) = v at *
        generalize yv b0 = x at *
        clear hlt hi hz
        go_wp2_with fail
        refine (C0.out _).mono ?_
        rintro e w2 ⟨rfl, rfl⟩
        go_wp2_with fail
        go_ret
        exact ⟨by simp, HB.out⟩
      · have e0 : ¬ yv b0 = 0 := fun e => hz (H0.out.1 e)
        have e1 : yv (gpow b0 i) = 1 := by rw [HI.out]; show yv (gm (gpow b0 254) b0) = 1; rw [gpow_254, gpow_255 b0 hz]; rfl
        have C1 := Lib.hid (show ∀ w, Calls Try.prog 12 #[.int .u8 (yv b0), .int .u8 (yv (ginv b0))] w fun e w' => e = .returned (.int .u8 1) ∧ w' = w from fun w => by have h := times_any b0 (ginv b0) w; rw [ginv_mul b0 hz] at h; exact h)
        have C2 := Lib.hid (fun w => box_any b0 w)
        have HX := Lib.hid (show bits BinOp.xor IntKind.u8 (yv (turnsY (ginv b0) 4)) 99 = yv (sbox b0) from (yv_xor _ 0x63).trans (by rw [turnsY_four, sbox_affine]))
        generalize yv (gpow b0 i) = p at *
        generalize ginv b0 = v at *
        subst e1
        clear hlt hi hz
        go_wp2_with fail
        go_loopw [6, 7] (fun v6 v7 wr => Below w.heap.size w wr ∧ ∃ m : Nat, 1 ≤ m ∧ m ≤ 5 ∧ v7 = .int .u64 (m : Nat) ∧ v6 = .int .u8 (yv (turnsY v (m - 1)))) (fun _ y _ => 5 - (intOf y).toNat)
        case atStart => exact ⟨HB.out, 1, by omega, by omega, rfl, rfl⟩
        case round =>
          obtain ⟨hbb, m, h1, h5, rfl, rfl⟩ := hrel
          have HBB := Lib.hid hbb
          clear hbb
          by_cases hlt : m < 5
          · obtain ⟨k, ek, hk⟩ : ∃ k : Nat, IntKind.u64.wrap (8 - (m : Int)) = (k : Int) ∧ 8 - m = k := ⟨8 - m, by rw [IntWalk.u64_in _ (by omega)]; omega, rfl⟩
            have ho := turn_step m v
            rw [hk] at ho
            have hx := yv_xor (turnsY v (m - 1)) (v <<< m ||| v >>> k)
            have HT := Lib.hid (show turnsY v (m - 1) ^^^ (v <<< m ||| v >>> k) = turnsY v (m + 1 - 1) by
              obtain ⟨n, rfl⟩ : ∃ n, m = n + 1 := ⟨m - 1, by omega⟩
              rw [← hk]; rfl)
            have HM := Lib.hid (And.intro h1 hlt)
            have mI : (m : Int) < 5 := by omega
            have m0 : (1 : Int) ≤ (m : Int) := by omega
            have kI : (k : Int) < 8 := by omega
            have k0 : (0 : Int) ≤ (k : Int) := by omega
            generalize turnsY v (m - 1) = y at *
            clear hlt h1 h5 hk
            go_wp2_with fail
            go_roundw
            case rel => exact ⟨HBB.out, m + 1, by omega, by have := HM.out; omega, by go_num, by rw [HT.out]⟩
            case measure => simp [intOf]; have := HM.out; omega
          · have HI5 := Lib.hid (show m - 1 = 4 by omega)
            have m5 : (5 : Int) ≤ (m : Int) := by omega
            rw [HI5.out]
            have hx := HX.out
            generalize yv (turnsY v 4) = y at *
            clear hlt h1 h5
            go_wp2_with fail
            refine (C1.out _).mono ?_
            rintro e w2 ⟨rfl, rfl⟩
            go_wp2_with fail
            refine (C2.out _).mono ?_
            rintro e w3 ⟨rfl, rfl⟩
            go_wp2_with fail
            go_ret
            exact ⟨by simp, HBB.out⟩
set_option maxRecDepth 100000 in
theorem lifted (os : Os) (started : os.Started) (H : Type) (enc : TypeId × Value → H) :
    ReturnsInHanded {} Try.checked os 9 .any (Rows.aesPowersSpec.pre6 enc Try.prog Try.f9 Rows.aesPowersRow.domain false) (Rows.aesPowersSpec.post enc Try.prog Try.f9 false true false false) := by
  refine returnsInHanded_of_change (C := Try.checked) own started (by kernel_rfl) Try.func9
    (ChangeSpec.witness6 (enc := enc) (C := Try.checked) false ⟨#[], #[.int .u8 0], []⟩ 8 (by kernel_rfl) (by kernel_rfl) (by kernel_rfl) (by kernel_rfl)) ?_
  intro W base args ds gs before hval0 hW hcnd _
  have hval : ∀ (j : Nat) t v, Try.f9.params[j]? = some t → args[j]? = some v → Value.okWide Try.prog W .any base t v := hval0
  have hW' := hW
  obtain ⟨p, q, hA0, hV, rfl, hfz, hnd⟩ := hW
  have hA : DataW.TrodAll enc Try.prog W 0 (fun _ => true) true Try.f9.params.toList args.toList ds p := hA0
  rw [Try.params9] at hA hval
  obtain ⟨v0, vs0, d0, ds0, p0, q0, hargs, rfl, rfl, h0, r0⟩ := trodAll_cons hA
  obtain ⟨rfl, rfl, rfl⟩ := trodAll_nil r0
  obtain rfl : args = #[v0] := by cases args; simp_all
  obtain ⟨rfl, rfl⟩ := trodVars_none hV
  obtain ⟨a0, rfl, rfl, rfl, w0⟩ := open_int Try.underlying5 (hval 0 5 v0 rfl rfl) h0
  obtain ⟨b0, rfl⟩ := byte_of w0
  clear hA0 hval0
  simp only [List.append_nil] at hW'
  refine (walk b0 W).mono fun e W' ⟨he, bel⟩ => ?_
  subst he
  exact ⟨_, rfl, _, _, _, [], _, [], hW', trodAll_mk1 (shut_bool Try.underlying4 _), (trodAll_cons_mk (shut_int Try.underlying5 w0) trodAll_mk0), rfl, bel.frame _, fun h => by cases h⟩

theorem over : Rows.aesPowersRow.holds Try.pinned (OpenSpec.ofChange Rows.aesPowersSpec) :=
  OpenClaim.holds_of_wide 9 Try.f9 rfl rfl rfl rfl rfl rfl rfl ⟨rfl, rfl, rfl, rfl, rfl⟩ rfl rfl rfl rfl rfl (by kernel_rfl) Try.func9 (by kernel_rfl)
    (of_decide_eq_true (by kernel_rfl)) (by unfold Func.isWrapper; first | (rw [if_pos (by decide +kernel)]; kernel_rfl) | (rw [if_neg (by decide +kernel)]; exact ⟨rfl, rfl⟩))
    (fun os started H enc _ => lifted os started H enc)

/-- The statement. -/
theorem proved : Rows.AesPowersSaid := over
#print axioms proved
end Go.Proofs.Ytnflbagplljjlaa.aesPowers
