/-
  'AesBox' returns true at every input, and each argument reads behind the call as it read before. Conditions: none.
-/
import Derived.Test.YtnflbagplljjlaaRows
import Derived.Test.YtnflbagplljjlaaYLaid
import Derived.Test.YtnflbagplljjlaaYAlive
namespace Go.Proofs.Ytnflbagplljjlaa.aesBox
open Go.ChangeShapes Go.WideShapes Go.ChangeAt Go.RowKit
set_option linter.unusedVariables false

theorem yv_not (b : BitVec 8) : bits BinOp.xor IntKind.u8 255 (yv b) = yv (~~~b) := by
  have h := yv_xor (BitVec.allOnes 8) b
  rw [BitVec.allOnes_xor] at h
  exact h
theorem yv_not' (b : BitVec 8) : bits BinOp.xor IntKind.u8 IntKind.u8.max (yv b) = yv (~~~b) := yv_not b
theorem unary_yv (a : BitVec 8) : Op.unary .xor (.int .u8 (yv a)) = pure (.int .u8 (yv (~~~a))) := by
  rw [unary_xor]
  show Op.intBits .xor .u8 IntKind.u8.max (yv a) = _
  show pure (Value.int .u8 (bits BinOp.xor IntKind.u8 255 (yv a))) = _
  rw [yv_not]

set_option maxRecDepth 100000 in
set_option maxHeartbeats 3200000 in
theorem walk (b0 : BitVec 8) (b1 : BitVec 8) (w : World) :
    Calls Try.prog 7 #[.int .u8 (yv b0), .int .u8 (yv b1)] w fun e w' => e = .returned (.bool true) ∧ Below w.heap.size w w' := by
  have C1 := Lib.hid (fun w => box_any b0 w)
  have C2 := Lib.hid (show ∀ w, Calls Try.prog 15 #[.int .u8 (yv (sbox b0))] w fun e w' => e = .returned (.int .u8 (yv b0)) ∧ w' = w from fun w => by have h := unbox_any (sbox b0) w; rw [ubox_sbox] at h; exact h)
  have C3 := Lib.hid (fun w => unbox_any b0 w)
  have C4 := Lib.hid (show ∀ w, Calls Try.prog 14 #[.int .u8 (yv (ubox b0))] w fun e w' => e = .returned (.int .u8 (yv b0)) ∧ w' = w from fun w => by have h := box_any (ubox b0) w; rw [sbox_ubox] at h; exact h)
  have C5 := Lib.hid (fun w => box_any b1 w)
  have HQ := Lib.hid (show (yv (sbox b0) == yv (sbox b1)) = (yv b0 == yv b1) by
    by_cases h : b0 = b1
    · subst h; rw [beq_self_eq_true, beq_self_eq_true]
    · have h1 : ¬ yv b0 = yv b1 := fun e => h ((yv_inj _ _).1 e)
      have h2 : ¬ yv (sbox b0) = yv (sbox b1) := fun e => h ((sbox_inj _ _).1 ((yv_inj _ _).1 e))
      rw [beq_eq_false_iff_ne.2 h1, beq_eq_false_iff_ne.2 h2])
  have HN := Lib.hid (show ¬ yv (sbox b0) = yv b0 ∧ ¬ yv (sbox b0) = yv (~~~b0) from ⟨fun e => (sbox_ne b0).1 ((yv_inj _ _).1 e), fun e => (sbox_ne b0).2 ((yv_inj _ _).1 e)⟩)
  have hun := unary_yv b0
  have hnt := yv_not b0
  go_enter Try.func7, Try.ntmps7
  go_wp2_with fail
  refine (alive4_any _).mono ?_
  rintro e w1 ⟨rfl, hb1⟩
  go_wp2_with fail
  refine (C1.out _).mono ?_
  rintro e w2 ⟨rfl, rfl⟩
  go_wp2_with fail
  refine (C2.out _).mono ?_
  rintro e w3 ⟨rfl, rfl⟩
  go_wp2_with fail
  refine (C3.out _).mono ?_
  rintro e w4 ⟨rfl, rfl⟩
  go_wp2_with fail
  refine (C4.out _).mono ?_
  rintro e w5 ⟨rfl, rfl⟩
  go_wp2_with fail
  refine (C1.out _).mono ?_
  rintro e w6 ⟨rfl, rfl⟩
  go_wp2_with fail
  refine (C5.out _).mono ?_
  rintro e w7 ⟨rfl, rfl⟩
  have hq := HQ.out
  obtain ⟨n1, n2⟩ := HN.out
  go_wp2_with fail
  refine (C1.out _).mono ?_
  rintro e w8 ⟨rfl, rfl⟩
  go_wp2_with fail
  refine (C1.out _).mono ?_
  rintro e w9 ⟨rfl, rfl⟩
  go_wp2_with fail
  go_ret
  exact ⟨by simp [n1, n2], hb1⟩
set_option maxRecDepth 100000 in
theorem lifted (os : Os) (started : os.Started) (H : Type) (enc : TypeId × Value → H) :
    ReturnsInHanded {} Try.checked os 7 .any (Rows.aesBoxSpec.pre6 enc Try.prog Try.f7 Rows.aesBoxRow.domain false) (Rows.aesBoxSpec.post enc Try.prog Try.f7 false true false false) := by
  refine returnsInHanded_of_change (C := Try.checked) own started (by kernel_rfl) Try.func7
    (ChangeSpec.witness6 (enc := enc) (C := Try.checked) false ⟨#[], #[.int .u8 0, .int .u8 0], []⟩ 8 (by kernel_rfl) (by kernel_rfl) (by kernel_rfl) (by kernel_rfl)) ?_
  intro W base args ds gs before hval0 hW hcnd _
  have hval : ∀ (j : Nat) t v, Try.f7.params[j]? = some t → args[j]? = some v → Value.okWide Try.prog W .any base t v := hval0
  have hW' := hW
  obtain ⟨p, q, hA0, hV, rfl, hfz, hnd⟩ := hW
  have hA : DataW.TrodAll enc Try.prog W 0 (fun _ => true) true Try.f7.params.toList args.toList ds p := hA0
  rw [Try.params7] at hA hval
  obtain ⟨v0, vs0, d0, ds0, p0, q0, hargs, rfl, rfl, h0, r0⟩ := trodAll_cons hA
  obtain ⟨v1, vs1, d1, ds1, p1, q1, rfl, rfl, rfl, h1, r1⟩ := trodAll_cons r0
  obtain ⟨rfl, rfl, rfl⟩ := trodAll_nil r1
  obtain rfl : args = #[v0, v1] := by cases args; simp_all
  obtain ⟨rfl, rfl⟩ := trodVars_none hV
  obtain ⟨a0, rfl, rfl, rfl, w0⟩ := open_int Try.underlying5 (hval 0 5 v0 rfl rfl) h0
  obtain ⟨b0, rfl⟩ := byte_of w0
  obtain ⟨a1, rfl, rfl, rfl, w1⟩ := open_int Try.underlying5 (hval 1 5 v1 rfl rfl) h1
  obtain ⟨b1, rfl⟩ := byte_of w1
  clear hA0 hval0
  simp only [List.append_nil] at hW'
  refine (walk b0 b1 W).mono fun e W' ⟨he, bel⟩ => ?_
  subst he
  exact ⟨_, rfl, _, _, _, [], _, [], hW', trodAll_mk1 (shut_bool Try.underlying4 _), (trodAll_cons_mk (shut_int Try.underlying5 w0) (trodAll_cons_mk (shut_int Try.underlying5 w1) trodAll_mk0)), rfl, bel.frame _, fun h => by cases h⟩

theorem over : Rows.aesBoxRow.holds Try.pinned (OpenSpec.ofChange Rows.aesBoxSpec) :=
  OpenClaim.holds_of_wide 7 Try.f7 rfl rfl rfl rfl rfl rfl rfl ⟨rfl, rfl, rfl, rfl, rfl⟩ rfl rfl rfl rfl rfl (by kernel_rfl) Try.func7 (by kernel_rfl)
    (of_decide_eq_true (by kernel_rfl)) (by unfold Func.isWrapper; first | (rw [if_pos (by decide +kernel)]; kernel_rfl) | (rw [if_neg (by decide +kernel)]; exact ⟨rfl, rfl⟩))
    (fun os started H enc _ => lifted os started H enc)

/-- The statement. -/
theorem proved : Rows.AesBoxSaid := over
#print axioms proved
end Go.Proofs.Ytnflbagplljjlaa.aesBox
