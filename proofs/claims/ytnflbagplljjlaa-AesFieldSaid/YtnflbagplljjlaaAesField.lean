/-
  'AesField' returns true at every input, and each argument reads behind the call as it read before. Conditions: none.
-/
import Derived.Test.YtnflbagplljjlaaRows
import Derived.Test.YtnflbagplljjlaaYLaid
import Derived.Test.YtnflbagplljjlaaYAlive
namespace Go.Proofs.Ytnflbagplljjlaa.aesField
open Go.ChangeShapes Go.WideShapes Go.ChangeAt Go.RowKit
set_option linter.unusedVariables false


set_option maxRecDepth 100000 in
set_option maxHeartbeats 3200000 in
theorem walk (b0 : BitVec 8) (b1 : BitVec 8) (b2 : BitVec 8) (w : World) :
    Calls Try.prog 6 #[.int .u8 (yv b0), .int .u8 (yv b1), .int .u8 (yv b2)] w fun e w' => e = .returned (.bool true) ∧ Below w.heap.size w w' := by
  have c1 := fun w => times_any b0 b1 w
  have c2 := fun w => times_any b1 b0 w
  rw [gm_comm b1 b0] at c2
  have c3 := fun w => times_any b1 b2 w
  have c4 := fun w => times_any b0 (gm b1 b2) w
  have c5 := fun w => times_any (gm b0 b1) b2 w
  rw [← gm_assoc] at c5
  have c6 := fun w => times_any b0 (b1 ^^^ b2) w
  rw [gm_addr] at c6
  have c7 := fun w => times_any b0 b2 w
  have c8 : ∀ w, Calls Try.prog 12 #[.int .u8 (yv b0), .int .u8 1] w fun e w' => e = .returned (.int .u8 (yv b0)) ∧ w' = w := by
    intro w
    have h := times_any b0 1 w
    rw [gm_one] at h
    exact h
  have c9 : ∀ w, Calls Try.prog 12 #[.int .u8 (yv b0), .int .u8 0] w fun e w' => e = .returned (.int .u8 0) ∧ w' = w := by
    intro w
    have h := times_any b0 0 w
    rw [gm_nil] at h
    exact h
  have hx := yv_xor b1 b2
  have hx2 := yv_xor (gm b0 b1) (gm b0 b2)
  have HZ := Lib.hid (show (yv b0 = 0 ∧ yv (gm b0 b1) = 0) ∨ (¬ yv b0 = 0 ∧ yv b1 = 0 ∧ yv (gm b0 b1) = 0) ∨ (¬ yv b0 = 0 ∧ ¬ yv b1 = 0 ∧ ¬ yv (gm b0 b1) = 0) by
    have hz := gm_eq_nil b0 b1
    by_cases h0 : b0 = 0
    · exact .inl ⟨(yv_zero _).2 h0, (yv_zero _).2 (hz.2 (.inl h0))⟩
    · by_cases h1 : b1 = 0
      · exact .inr (.inl ⟨fun e => h0 ((yv_zero _).1 e), (yv_zero _).2 h1, (yv_zero _).2 (hz.2 (.inr h1))⟩)
      · exact .inr (.inr ⟨fun e => h0 ((yv_zero _).1 e), fun e => h1 ((yv_zero _).1 e), fun e => (hz.1 ((yv_zero _).1 e)).elim h0 h1⟩))
  have C1 := Lib.hid c1
  have C2 := Lib.hid c2
  have C3 := Lib.hid c3
  have C4 := Lib.hid c4
  have C5 := Lib.hid c5
  have C6 := Lib.hid c6
  have C7 := Lib.hid c7
  have C8 := Lib.hid c8
  have C9 := Lib.hid c9
  clear c1 c2 c3 c4 c5 c6 c7 c8 c9
  go_enter Try.func6, Try.ntmps6
  go_wp2_with fail
  refine (alive4_any _).mono ?_
  rintro e w1 ⟨rfl, hb1⟩
  go_wp2_with fail
  refine (C1.out _).mono ?_
  rintro e w2 ⟨rfl, rfl⟩
  go_wp2_with fail
  refine (C2.out _).mono ?_
  rintro e w3 ⟨rfl, rfl⟩
  go_wp2_with fail
  refine (C3.out _).mono ?_
  rintro e w4 ⟨rfl, rfl⟩
  go_wp2_with fail
  refine (C4.out _).mono ?_
  rintro e w5 ⟨rfl, rfl⟩
  go_wp2_with fail
  refine (C1.out _).mono ?_
  rintro e w6 ⟨rfl, rfl⟩
  go_wp2_with fail
  refine (C5.out _).mono ?_
  rintro e w7 ⟨rfl, rfl⟩
  go_wp2_with fail
  refine (C6.out _).mono ?_
  rintro e w8 ⟨rfl, rfl⟩
  go_wp2_with fail
  refine (C1.out _).mono ?_
  rintro e w9 ⟨rfl, rfl⟩
  go_wp2_with fail
  refine (C7.out _).mono ?_
  rintro e w10 ⟨rfl, rfl⟩
  go_wp2_with fail
  refine (C8.out _).mono ?_
  rintro e w11 ⟨rfl, rfl⟩
  go_wp2_with fail
  refine (C9.out _).mono ?_
  rintro e w12 ⟨rfl, rfl⟩
  go_wp2_with fail
  refine (C1.out _).mono ?_
  rintro e w13 ⟨rfl, rfl⟩
  rcases HZ.out with ⟨e0, ez⟩ | ⟨n0, e1, ez⟩ | ⟨n0, n1, nz⟩
  · go_wp2_with fail
    go_ret
    exact ⟨by simp, hb1⟩
  · go_wp2_with fail
    go_ret
    exact ⟨by simp, hb1⟩
  · go_wp2_with fail
    go_ret
    exact ⟨by simp [beq_eq_false_iff_ne.2 n0, beq_eq_false_iff_ne.2 n1, beq_eq_false_iff_ne.2 nz], hb1⟩
set_option maxRecDepth 100000 in
theorem lifted (os : Os) (started : os.Started) (H : Type) (enc : TypeId × Value → H) :
    ReturnsInHanded {} Try.checked os 6 .any (Rows.aesFieldSpec.pre6 enc Try.prog Try.f6 Rows.aesFieldRow.domain false) (Rows.aesFieldSpec.post enc Try.prog Try.f6 false true false false) := by
  refine returnsInHanded_of_change (C := Try.checked) own started (by kernel_rfl) Try.func6
    (ChangeSpec.witness6 (enc := enc) (C := Try.checked) false ⟨#[], #[.int .u8 0, .int .u8 0, .int .u8 0], []⟩ 8 (by kernel_rfl) (by kernel_rfl) (by kernel_rfl) (by kernel_rfl)) ?_
  intro W base args ds gs before hval0 hW hcnd _
  have hval : ∀ (j : Nat) t v, Try.f6.params[j]? = some t → args[j]? = some v → Value.okWide Try.prog W .any base t v := hval0
  have hW' := hW
  obtain ⟨p, q, hA0, hV, rfl, hfz, hnd⟩ := hW
  have hA : DataW.TrodAll enc Try.prog W 0 (fun _ => true) true Try.f6.params.toList args.toList ds p := hA0
  rw [Try.params6] at hA hval
  obtain ⟨v0, vs0, d0, ds0, p0, q0, hargs, rfl, rfl, h0, r0⟩ := trodAll_cons hA
  obtain ⟨v1, vs1, d1, ds1, p1, q1, rfl, rfl, rfl, h1, r1⟩ := trodAll_cons r0
  obtain ⟨v2, vs2, d2, ds2, p2, q2, rfl, rfl, rfl, h2, r2⟩ := trodAll_cons r1
  obtain ⟨rfl, rfl, rfl⟩ := trodAll_nil r2
  obtain rfl : args = #[v0, v1, v2] := by cases args; simp_all
  obtain ⟨rfl, rfl⟩ := trodVars_none hV
  obtain ⟨a0, rfl, rfl, rfl, w0⟩ := open_int Try.underlying5 (hval 0 5 v0 rfl rfl) h0
  obtain ⟨b0, rfl⟩ := byte_of w0
  obtain ⟨a1, rfl, rfl, rfl, w1⟩ := open_int Try.underlying5 (hval 1 5 v1 rfl rfl) h1
  obtain ⟨b1, rfl⟩ := byte_of w1
  obtain ⟨a2, rfl, rfl, rfl, w2⟩ := open_int Try.underlying5 (hval 2 5 v2 rfl rfl) h2
  obtain ⟨b2, rfl⟩ := byte_of w2
  clear hA0 hval0
  simp only [List.append_nil] at hW'
  refine (walk b0 b1 b2 W).mono fun e W' ⟨he, bel⟩ => ?_
  subst he
  exact ⟨_, rfl, _, _, _, [], _, [], hW', trodAll_mk1 (shut_bool Try.underlying4 _), (trodAll_cons_mk (shut_int Try.underlying5 w0) (trodAll_cons_mk (shut_int Try.underlying5 w1) (trodAll_cons_mk (shut_int Try.underlying5 w2) trodAll_mk0))), rfl, bel.frame _, fun h => by cases h⟩

theorem over : Rows.aesFieldRow.holds Try.pinned (OpenSpec.ofChange Rows.aesFieldSpec) :=
  OpenClaim.holds_of_wide 6 Try.f6 rfl rfl rfl rfl rfl rfl rfl ⟨rfl, rfl, rfl, rfl, rfl⟩ rfl rfl rfl rfl rfl (by kernel_rfl) Try.func6 (by kernel_rfl)
    (of_decide_eq_true (by kernel_rfl)) (by unfold Func.isWrapper; first | (rw [if_pos (by decide +kernel)]; kernel_rfl) | (rw [if_neg (by decide +kernel)]; exact ⟨rfl, rfl⟩))
    (fun os started H enc _ => lifted os started H enc)

/-- The statement. -/
theorem proved : Rows.AesFieldSaid := over
#print axioms proved
end Go.Proofs.Ytnflbagplljjlaa.aesField
