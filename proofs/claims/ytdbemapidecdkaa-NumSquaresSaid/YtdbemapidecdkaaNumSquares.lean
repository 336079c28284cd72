/-
  'NumSquares' returns true at every input, and each argument reads behind the call as it read before. Conditions: none.
-/
import Derived.Test.YtdbemapidecdkaaRows
import Derived.WalkKit
import Derived.ProofKit
import Derived.OpenShut
import Derived.ShutString
import Derived.Test.YtdbemapidecdkaaAlive
import Derived.Test.YtdbemapidecdkaaRoots
namespace Go.Proofs.Ytdbemapidecdkaa.numSquares
open Go.ChangeShapes Go.WideShapes Go.ChangeAt Go.RowKit
open Go.ChangeMaps (open_string shut_string)
set_option linter.unusedVariables false      -- a walk need not use every 'w<i>' (that an integer argument fits its kind)

theorem own : ownKnob Try.prog.godebug = none := by kernel_rfl

theorem frac_okI (x : Int) (p k : Nat) (w : World) (hx : x = p) (hk : k = 2 ∨ k = 3) (h1 : 1 ≤ p) (h2 : p ≤ 65535) :
    Calls Try.prog 22 #[.int .u32 x, .int .i64 k] w fun e w' => e = .returned (.tuple #[.int .u32 (fracI p k : Nat), .int .i64 0]) ∧ Below w.heap.size w w' := by
  subst hx; exact frac_ok p k w hk h1 h2

set_option maxHeartbeats 800000 in
theorem walk255 (m : Nat) (hm : m ≤ 255) (w : World) :
    Calls Try.prog 7 #[.int .u8 255, .int .u8 m] w fun e w' => e = .returned (.bool true) ∧ Below w.heap.size w w' := by
  have H1 := Lib.hid (fun w => frac_bad 0 2 w (.inr (.inl (by omega))))
  have H2 := Lib.hid (fun w => frac_ok 4096 3 w (.inr rfl) (by omega) (by omega))
  rw [show 4096 = 16 ^ 3 from rfl, frac_whole 16 3 (.inr rfl) (by decide)] at H2
  have H3 := Lib.hid (fun w => frac_ok 65281 2 w (.inl rfl) (by omega) (by omega))
  have H4 := Lib.hid (fun w => frac_okI (65281 + (m : Int) % 255) (65281 + m % 255) 2 w (by simp) (.inl rfl) (by omega) (by omega))
  go_enter Try.func7, Try.ntmps7
  go_wp2_with fail
  refine (alive_any _).mono ?_
  rintro e w1 ⟨rfl, hb1⟩
  go_wp2_with fail
  refine (H1.out _).mono ?_
  rintro e w2 ⟨rfl, rfl⟩
  go_wp2_with fail
  refine (H2.out _).mono ?_
  rintro e w3 ⟨rfl, hb3⟩
  go_wp2_with fail
  refine (H3.out _).mono ?_
  rintro e w4 ⟨rfl, hb4⟩
  go_wp2_with fail
  refine (H4.out _).mono ?_
  rintro e w5 ⟨rfl, hb5⟩
  go_wp2_with fail
  go_ret
  have s1 := hb1.size
  have s3 := hb3.size
  have s4 := hb4.size
  exact ⟨rfl, ((hb1.trans (hb3.mono s1)).trans (hb4.mono (by omega))).trans (hb5.mono (by omega))⟩

set_option maxHeartbeats 800000 in
theorem walk0 (m : Nat) (hm : m ≤ 255) (w : World) :
    Calls Try.prog 7 #[.int .u8 0, .int .u8 m] w fun e w' => e = .returned (.bool true) ∧ Below w.heap.size w w' := by
  have H1 := Lib.hid (fun w => frac_ok 1 2 w (.inl rfl) (by omega) (by omega))
  have H2 := Lib.hid (fun w => frac_ok 1 3 w (.inr rfl) (by omega) (by omega))
  rw [show 1 = 1 ^ 3 from rfl, frac_whole 1 3 (.inr rfl) (by decide)] at H2
  rw [show 1 = 1 ^ 2 from rfl, frac_whole 1 2 (.inl rfl) (by decide)] at H1
  have e0 : (m : Int) % 1 = 0 := by omega
  go_enter Try.func7, Try.ntmps7
  go_wp2_with fail
  refine (alive_any _).mono ?_
  rintro e w1 ⟨rfl, hb1⟩
  go_wp2_with fail
  refine (H1.out _).mono ?_
  rintro e w2 ⟨rfl, hb2⟩
  go_wp2_with fail
  refine (H2.out _).mono ?_
  rintro e w3 ⟨rfl, hb3⟩
  go_wp2_with fail
  refine (H1.out _).mono ?_
  rintro e w4 ⟨rfl, hb4⟩
  go_wp2_with fail
  refine (H1.out _).mono ?_
  rintro e w5 ⟨rfl, hb5⟩
  go_wp2_with fail
  go_ret
  have s1 := hb1.size
  have s2 := hb2.size
  have s3 := hb3.size
  have s4 := hb4.size
  exact ⟨rfl, (((hb1.trans (hb2.mono s1)).trans (hb3.mono (by omega))).trans (hb4.mono (by omega))).trans (hb5.mono (by omega))⟩

set_option maxRecDepth 100000 in
set_option maxHeartbeats 800000 in
theorem walkn (n m : Nat) (h1 : 1 ≤ n) (hn : n ≤ 254) (hm : m ≤ 255) (w : World) :
    Calls Try.prog 7 #[.int .u8 n, .int .u8 m] w fun e w' => e = .returned (.bool true) ∧ Below w.heap.size w w' := by
  obtain ⟨q, hq⟩ : ∃ q, n % 40 + 1 = q := ⟨_, rfl⟩
  have hq1 : 1 ≤ q := by omega
  have hq2 : q ≤ 40 := by omega
  have hqI : (n : Int) % 40 + 1 = (q : Int) := by omega
  have hqq := Nat.mul_le_mul hq2 hq2
  have hqqq := Nat.mul_le_mul hqq hq2
  have hq0 : 0 < q * q * q := Nat.mul_pos (Nat.mul_pos hq1 hq1) hq1
  have hnn := Nat.mul_le_mul hn hn
  have hs := Nat.mul_le_mul (show n + 1 ≤ 255 by omega) (show n + 1 ≤ 255 by omega)
  have hs0 : 0 < (n + 1) * (n + 1) := Nat.mul_pos (by omega) (by omega)
  have es : (n + 1) * (n + 1) = n * n + 2 * n + 1 := by rw [Nat.add_mul, Nat.mul_add]; omega
  have e2 : (n + 1) ^ 2 = (n + 1) * (n + 1) := Nat.pow_two _
  have en2 : n ^ 2 = n * n := Nat.pow_two _
  have e3 : q ^ 3 = q * q * q := by rw [Nat.pow_succ, Nat.pow_two]
  obtain ⟨d, hd⟩ : ∃ d, m % n = d := ⟨_, rfl⟩
  have hdn : d < n := by rw [← hd]; exact Nat.mod_lt _ (by omega)
  have hdI : (m : Int) % (n : Int) = (d : Int) := by rw [← hd]; simp
  have W1 := frac_whole (n + 1) 2 (.inl rfl) (by omega)
  have W2 := frac_whole q 3 (.inr rfl) (by omega)
  have W3 := frac_more n h1 hn
  have W4 := frac_mono (n * n + n + 1) (n * n + n + 1 + d) n (by omega) (by omega) (by omega) (by omega)
  rw [e2] at W1
  rw [e3] at W2
  have g1 := fun w => frac_okI (((n : Int) + 1) * ((n : Int) + 1)) ((n + 1) * (n + 1)) 2 w (by simp) (.inl rfl) (by omega) (by omega)
  have g2 := fun w => frac_okI ((q : Int) * (q : Int) * (q : Int)) (q * q * q) 3 w (by simp) (.inr rfl) (by omega) (by omega)
  have g3 := fun w => frac_okI ((n : Int) * (n : Int) + (n : Int) + 1) (n * n + n + 1) 2 w (by simp) (.inl rfl) (by omega) (by omega)
  have g4 := fun w => frac_okI ((n : Int) * (n : Int) + (n : Int) + 1 + (d : Int)) (n * n + n + 1 + d) 2 w (by simp) (.inl rfl) (by omega) (by omega)
  rw [W1] at g1
  rw [W2] at g2
  have l3 := frac_lt (n * n + n + 1) 2
  have l4 := frac_lt (n * n + n + 1 + d) 2
  generalize fracI (n * n + n + 1) 2 = x at *
  generalize fracI (n * n + n + 1 + d) 2 = y at *
  have H1 := Lib.hid g1
  have H2 := Lib.hid g2
  have H3 := Lib.hid g3
  have H4 := Lib.hid g4
  have b1 : ((n : Int) + 1) * ((n : Int) + 1) ≤ 65025 := by
    have : (((n + 1) * (n + 1) : Nat) : Int) ≤ 65025 := by omega
    simpa using this
  have b2 : (0 : Int) ≤ ((n : Int) + 1) * ((n : Int) + 1) := Int.mul_nonneg (by omega) (by omega)
  have b3 : (n : Int) * (n : Int) ≤ 64516 := by
    have : ((n * n : Nat) : Int) ≤ 64516 := by omega
    simpa using this
  have b4 : (0 : Int) ≤ (n : Int) * (n : Int) := Int.mul_nonneg (by omega) (by omega)
  have b5 : (q : Int) * (q : Int) ≤ 1600 := by
    have : ((q * q : Nat) : Int) ≤ 1600 := by omega
    simpa using this
  have b6 : (0 : Int) ≤ (q : Int) * (q : Int) := Int.mul_nonneg (by omega) (by omega)
  have b7 : (q : Int) * (q : Int) * (q : Int) ≤ 64000 := by
    have : ((q * q * q : Nat) : Int) ≤ 64000 := by omega
    simpa using this
  have b8 : (0 : Int) ≤ (q : Int) * (q : Int) * (q : Int) := Int.mul_nonneg b6 (by omega)
  have hn1 : (1 : Int) ≤ (n : Int) := by omega
  clear g1 g2 g3 g4 W1 W2 e2 e3 en2 es hs hs0 hnn hqq hqqq hq0 hd hq
  go_enter Try.func7, Try.ntmps7
  go_wp2_with fail
  refine (alive_any _).mono ?_
  rintro e w1 ⟨rfl, hb1⟩
  go_wp2_with fail
  refine (H1.out _).mono ?_
  rintro e w2 ⟨rfl, hb2⟩
  go_wp2_with fail
  refine (H2.out _).mono ?_
  rintro e w3 ⟨rfl, hb3⟩
  go_wp2_with fail
  refine (H3.out _).mono ?_
  rintro e w4 ⟨rfl, hb4⟩
  go_wp2_with fail
  have hxp : (0 : Int) < (x : Int) := by omega
  have hyx : (x : Int) ≤ (y : Int) := by omega
  refine (H4.out _).mono ?_
  rintro e w5 ⟨rfl, hb5⟩
  clear b1 b2 b3 b4 b5 b6 b7 b8 l3 l4 hqI hdI W3 W4 hq1 hq2 hdn H1 H2 H3 H4 hm
  generalize (x : Int) = X at *
  generalize (y : Int) = Y at *
  go_wp2_with fail
  go_ret
  have s1 := hb1.size
  have s2 := hb2.size
  have s3 := hb3.size
  have s4 := hb4.size
  exact ⟨rfl, (((hb1.trans (hb2.mono s1)).trans (hb3.mono (by omega))).trans (hb4.mono (by omega))).trans (hb5.mono (by omega))⟩
theorem walk (a0 : Int) (a1 : Int) (w0 : (Lit.int .u8 a0).wf = true) (w1 : (Lit.int .u8 a1).wf = true) (w : World) :
    Calls Try.prog 7 #[.int .u8 a0, .int .u8 a1] w fun e w' => e = .returned (.bool true) ∧ Below w.heap.size w w' := by
  have b0 : 0 ≤ a0 ∧ a0 ≤ 255 := by
    simp [Lit.wf, IntKind.min, IntKind.max, IntKind.signed, IntKind.bits] at w0; omega
  have b1 : 0 ≤ a1 ∧ a1 ≤ 255 := by
    simp [Lit.wf, IntKind.min, IntKind.max, IntKind.signed, IntKind.bits] at w1; omega
  clear w0 w1
  obtain ⟨n, rfl⟩ := Int.eq_ofNat_of_zero_le b0.1
  obtain ⟨m, rfl⟩ := Int.eq_ofNat_of_zero_le b1.1
  by_cases h0 : n = 255
  · subst h0
    exact walk255 m (by omega) w
  by_cases h1 : n = 0
  · subst h1
    exact walk0 m (by omega) w
  exact walkn n m (by omega) (by omega) (by omega) w

set_option maxRecDepth 100000 in
theorem lifted (os : Os) (started : os.Started) (H : Type) (enc : TypeId × Value → H) :
    ReturnsInHanded {} Try.checked os 7 .any (Rows.numSquaresSpec.pre6 enc Try.prog Try.f7 Rows.numSquaresRow.domain false) (Rows.numSquaresSpec.post enc Try.prog Try.f7 false true false false) := by
  refine returnsInHanded_of_change (C := Try.checked) own started (by kernel_rfl) Try.func7
    (ChangeSpec.witness6 (enc := enc) (C := Try.checked) false ⟨#[], #[.int .u8 0, .int .u8 0], []⟩ 8 (by kernel_rfl) (by kernel_rfl) (by kernel_rfl) (by kernel_rfl)) ?_
  intro W base args ds gs before hval0 hW hcnd _
  have hval : ∀ (j : Nat) t v, Try.f7.params[j]? = some t → args[j]? = some v → Value.okWide Try.prog W .any base t v := hval0
  have hW' := hW
  obtain ⟨p, q, hA0, hV, rfl, hfz, hnd⟩ := hW
  have hA : DataW.TrodAll enc Try.prog W 0 (fun _ => true) true Try.f7.params.toList args.toList ds p := hA0
  rw [Try.params7] at hA hval
  obtain ⟨v0, vs0, d0, ds0, p0, q0, hargs, rfl, rfl, h0, r0⟩ := trodAll_cons hA
  obtain ⟨v1, vs1, d1, ds1, p1, q1, rfl, rfl, rfl, h1, r1⟩ := trodAll_cons r0
  obtain ⟨rfl, rfl, rfl⟩ := trodAll_nil r1
  obtain rfl : args = #[v0, v1] := by cases args; simp_all
  obtain ⟨rfl, rfl⟩ := trodVars_none hV
  obtain ⟨a0, rfl, rfl, rfl, w0⟩ := open_int Try.underlying5 (hval 0 5 v0 rfl rfl) h0
  obtain ⟨a1, rfl, rfl, rfl, w1⟩ := open_int Try.underlying5 (hval 1 5 v1 rfl rfl) h1
  clear hA0 hval0
  simp only [List.append_nil] at hW'
  refine (walk a0 a1 w0 w1 W).mono fun e W' ⟨he, bel⟩ => ?_
  subst he
  exact ⟨_, rfl, _, _, _, [], _, [], hW', (trodAll_cons_mk (shut_bool Try.underlying4 _) trodAll_mk0), (trodAll_cons_mk (shut_int Try.underlying5 w0) (trodAll_cons_mk (shut_int Try.underlying5 w1) trodAll_mk0)), rfl, bel.frame _, fun h => by cases h⟩

theorem over : Rows.numSquaresRow.holds Try.pinned (OpenSpec.ofChange Rows.numSquaresSpec) :=
  OpenClaim.holds_of_wide 7 Try.f7 rfl rfl rfl rfl rfl rfl rfl ⟨rfl, rfl, rfl, rfl, rfl⟩ rfl rfl rfl rfl rfl (by kernel_rfl) Try.func7 (by kernel_rfl)
    (of_decide_eq_true (by kernel_rfl)) (by unfold Func.isWrapper; first | (rw [if_pos (by decide +kernel)]; kernel_rfl) | (rw [if_neg (by decide +kernel)]; exact ⟨rfl, rfl⟩))
    (fun os started H enc _ => lifted os started H enc)

theorem proved : Rows.NumSquaresSaid :=
  over
#print axioms proved
end Go.Proofs.Ytdbemapidecdkaa.numSquares
