/-
  'NumBits' returns true at every input, and each argument reads behind the call as it read before. Conditions: none.
-/
import Derived.Test.YtdbemapidecdkaaRows
import Derived.WalkKit
import Derived.ProofKit
import Derived.OpenShut
import Derived.ShutString
import Derived.ChangeOld
import Derived.Below
import Derived.SizedLaws
import Derived.Test.YtdbemapidecdkaaAlive
import Derived.Test.YtdbemapidecdkaaRef
namespace Go.Proofs.Ytdbemapidecdkaa.numBits
open Go.ChangeShapes Go.WideShapes Go.ChangeAt Go.RowKit
open Go.ChangeMaps (open_string shut_string)
set_option linter.unusedVariables false

theorem own : ownKnob Try.prog.godebug = none := by kernel_rfl
theorem laidOut : laidOutB Try.prog = true := by kernel_rfl

def IsRow (k : IntKind) (w : World) (a : Option Addr) (len cap : Nat) (zs : List Int) : Prop :=
  (a = none ∧ len = 0 ∧ cap = 0 ∧ zs = []) ∨
  ∃ x, a = some x ∧ len ≤ cap ∧ cap ≤ maxLen ∧ zs.length = cap ∧ (∀ i, i < zs.length → w.cell? (x.add i) = some (.int k (zs.getD i 0))) ∧ ∀ n ∈ zs, (Lit.int k n).wf = true

theorem put_all (x n : Int) (h0 : 0 ≤ x) (h1 : x < 18446744073709551616) :
    ∃ l E, (∀ w, Calls Try.prog 11 #[.int .u64 x, .int .i64 n] w fun e w' => ∃ v, e = .returned (.tuple #[v, .int .i64 E]) ∧ BS w' v l ∧ Below w.heap.size w w') ∧
      (∀ w, Calls Try.prog 12 #[.int .u64 x, .int .i64 n] w fun e w' => ∃ v, e = .returned (.tuple #[v, .int .i64 E]) ∧ BS w' v l ∧ Below w.heap.size w w') := by
  have nilBS : ∀ w, BS w (.slice none 0 0) [] := fun w => ⟨none, 0, rfl, by intro z hz; simp at hz, fun _ => rfl, .inl rfl⟩
  by_cases h : n < 0 ∨ 8 < n
  · refine ⟨[], 2, fun w => (put_bad x n w (by omega)).mono ?_, fun w => (rput_range x n w h).mono ?_⟩
    · rintro e w' ⟨rfl, rfl⟩; exact ⟨_, rfl, nilBS _, Below.refl _ _⟩
    · rintro e w' ⟨rfl, rfl⟩; exact ⟨_, rfl, nilBS _, Below.refl _ _⟩
  obtain ⟨m, rfl⟩ := Int.eq_ofNat_of_zero_le (show 0 ≤ n by omega)
  have e256 : (256 : Int) ^ m = 2 ^ (8 * m) := (pow_bytes m).symm
  by_cases hx : x < 2 ^ (8 * m)
  · have hz : x / 256 ^ m = 0 := by rw [e256]; exact Int.ediv_eq_zero_of_lt h0 hx
    refine ⟨putI x m, 0, fun w => (put_ok x m w (by omega) h0 hx).mono ?_, fun w => (rput_loop x m w (by omega) h0 h1).mono ?_⟩
    · rintro e w' ⟨rfl, ho, hb⟩; exact ⟨_, rfl, BS.of_owns ho (putI_length x m) (putI_byt x m), hb⟩
    · rintro e w' ⟨hb, ⟨_, rfl, ho⟩ | ⟨h, _⟩⟩
      · exact ⟨_, rfl, BS.of_owns ho (putI_length x m) (putI_byt x m), hb⟩
      · exact absurd hz h
  · have hp : (0 : Int) < 2 ^ (8 * m) := Int.pow_pos (by decide)
    have hz : x / 256 ^ m ≠ 0 := by
      rw [e256]
      have : 1 ≤ x / 2 ^ (8 * m) := (Int.le_ediv_iff_mul_le hp).2 (by omega)
      omega
    refine ⟨[], 2, fun w => (put_bad x m w (.inr (.inr (by simpa using hx)))).mono ?_, fun w => (rput_loop x m w (by omega) h0 h1).mono ?_⟩
    · rintro e w' ⟨rfl, rfl⟩; exact ⟨_, rfl, nilBS _, Below.refl _ _⟩
    · rintro e w' ⟨hb, ⟨h, _⟩ | ⟨_, rfl⟩⟩
      · exact absurd h hz
      · exact ⟨_, rfl, nilBS _, hb⟩
theorem get_all (v : Value) (l : List Int) (hm : l.length ≤ 9223372036854775807) :
    ∃ y E, (∀ w, BS w v l → Calls Try.prog 13 #[v] w fun e w' => e = .returned (.tuple #[.int .u64 y, .int .i64 E]) ∧ w' = w) ∧
      (∀ w, BS w v l → Calls Try.prog 14 #[v] w fun e w' => e = .returned (.tuple #[.int .u64 y, .int .i64 E]) ∧ w' = w) := by
  by_cases h : 8 < l.length
  · exact ⟨0, 2, fun w hw => get_bad w v l hw h hm, fun w hw => rget_bad w v l hw h hm⟩
  · exact ⟨num l, 0, fun w hw => get_ok w v l hw (by omega), fun w hw => rget_ok w v l hw (by omega)⟩
theorem narrow_all (x n : Int) (h : x ≤ 9223372036854775807) :
    ∃ y E, (∀ w, Calls Try.prog 15 #[.int .i64 x, .int .i64 n] w fun e w' => e = .returned (.tuple #[.int .u64 y, .int .i64 E]) ∧ w' = w) ∧
      (∀ w, Calls Try.prog 16 #[.int .i64 x, .int .i64 n] w fun e w' => e = .returned (.tuple #[.int .u64 y, .int .i64 E]) ∧ w' = w) := by
  by_cases hb : n < 0 ∨ 63 < n ∨ x < 0 ∨ 2 ^ n.toNat ≤ x
  · exact ⟨0, 2, fun w => narrow_bad x n w h hb, fun w => rnarrow_bad x n w h hb⟩
  · exact ⟨x, 0, fun w => narrow_ok x n w (by omega) (by omega) (by omega) h (by omega), fun w => rnarrow_ok x n w (by omega) (by omega) (by omega) h (by omega)⟩
theorem walk (a0 : Int) (a1 : Int) (a2 : Option Addr) (len2 cap2 : Nat) (z2 : List Int) (w : World) (w0 : (Lit.int .u64 a0).wf = true) (w1 : (Lit.int .i64 a1).wf = true) (w2 : IsRow .u8 w a2 len2 cap2 z2) (rc2 : len2 ≤ 140737488351232) :
    Calls Try.prog 3 #[.int .u64 a0, .int .i64 a1, .slice a2 len2 cap2] w fun e w' => e = .returned (.bool true) ∧ Below w.heap.size w w' := by
  obtain ⟨l, hlen, hl, hm⟩ := BS.of_row w2
  have b0 : 0 ≤ a0 ∧ a0 < 18446744073709551616 := by
    simp [Lit.wf, IntKind.min, IntKind.max, IntKind.signed, IntKind.bits] at w0; omega
  have b1 : -9223372036854775808 ≤ a1 ∧ a1 ≤ 9223372036854775807 := by
    simp [Lit.wf, IntKind.min, IntKind.max, IntKind.signed, IntKind.bits] at w1; omega
  clear w0 w1 w2
  have HLEN := Lib.hid hlen
  obtain ⟨pl, pE, P1, P2⟩ := put_all a0 a1 b0.1 b0.2
  obtain ⟨gy, gE, G1, G2⟩ := get_all (.slice a2 len2 cap2) l (by omega)
  have hw : wrap64 a0 ≤ 9223372036854775807 := by unfold wrap64; omega
  obtain ⟨ny, nE, N1, N2⟩ := narrow_all (wrap64 a0) a1 hw
  obtain ⟨x32, hx32⟩ : ∃ x, a0 % 4294967296 = x := ⟨_, rfl⟩
  have T1 := fun w => turn_any x32 a1 w
  have T2 := fun w => rturn_any x32 a1 w (by omega) (by omega)
  rw [rturn_eq x32 a1 (by omega) (by omega)] at T2
  have O1 := fun w => top_any a0 w b0.1 b0.2
  have O2 := fun w => rtop_any a0 w b0.1 b0.2
  generalize turnI x32 a1 = tv at *
  generalize topI a0 = ov at *
  have HP1 := Lib.hid P1
  have HP2 := Lib.hid P2
  have HG1 := Lib.hid G1
  have HG2 := Lib.hid G2
  have HN1 := Lib.hid N1
  have HN2 := Lib.hid N2
  have HT1 := Lib.hid T1
  have HT2 := Lib.hid T2
  have HO1 := Lib.hid O1
  have HO2 := Lib.hid O2
  clear P1 P2 G1 G2 N1 N2 T1 T2 O1 O2 hlen hw
  obtain ⟨b00, b01⟩ := b0
  obtain ⟨b10, b11⟩ := b1
  go_enter Try.func3, Try.ntmps3
  go_wp2_with fail
  refine (alive_any _).mono ?_
  rintro e w1 ⟨rfl, hb1⟩
  have L1 := Lib.hid (hl.kept hb1)
  clear hl
  by_cases h100 : 100 < len2
  · have hi : (100 : Int) < (len2 : Int) := by omega
    go_wp2_with fail
    go_ret
    exact ⟨rfl, hb1⟩
  have hi : (len2 : Int) ≤ 100 := by omega
  go_wp2_with fail
  refine (HP1.out _).mono ?_
  rintro e w2 ⟨v2, rfl, k2, hb2⟩
  have K2 := Lib.hid k2
  have L2 := Lib.hid (L1.out.kept hb2)
  clear k2
  go_wp2_with fail
  refine (HP2.out _).mono ?_
  rintro e w3 ⟨v3, rfl, k3, hb3⟩
  have K3 := Lib.hid k3
  have L3 := Lib.hid (L2.out.kept hb3)
  have K23 := Lib.hid (K2.out.kept hb3)
  clear k3
  go_wp2_with fail
  refine (HG1.out _ L3.out).mono ?_
  rintro e w4 ⟨rfl, rfl⟩
  go_wp2_with fail
  refine (HG2.out _ L3.out).mono ?_
  rintro e w5 ⟨rfl, rfl⟩
  go_wp2_with fail
  refine (HN1.out _).mono ?_
  rintro e w6 ⟨rfl, rfl⟩
  go_wp2_with fail
  refine (HN2.out _).mono ?_
  rintro e w7 ⟨rfl, rfl⟩
  go_wp2_with fail
  rw [hx32]
  refine (HT1.out _).mono ?_
  rintro e w8 ⟨rfl, rfl⟩
  go_wp2_with fail
  refine (HT2.out _).mono ?_
  rintro e w9 ⟨rfl, hb9⟩
  have K9 := Lib.hid (K3.out.kept hb9)
  have K29 := Lib.hid (K23.out.kept hb9)
  go_wp2_with fail
  refine (HO1.out _).mono ?_
  rintro e w10 ⟨rfl, rfl⟩
  go_wp2_with fail
  refine (HO2.out _).mono ?_
  rintro e w11 ⟨rfl, rfl⟩
  go_wp2_with fail
  refine (same_eq _ _ _ _ K29.out K9.out).mono ?_
  rintro e w12 ⟨rfl, rfl⟩
  go_wp2_with fail
  go_ret
  have s1 := hb1.size
  have s2 := hb2.size
  have s3 := hb3.size
  exact ⟨by simp, ((hb1.trans (hb2.mono s1)).trans (hb3.mono (by omega))).trans (hb9.mono (by omega))⟩

set_option maxRecDepth 100000 in
theorem lifted (os : Os) (started : os.Started) (H : Type) (enc : TypeId × Value → H) :
    ReturnsInHanded {} Try.checked os 3 .any (Rows.numBitsSpec.pre6 enc Try.prog Try.f3 Rows.numBitsRow.domain false) (Rows.numBitsSpec.post enc Try.prog Try.f3 false true false false) := by
  refine returnsInHanded_of_change_sized (C := Try.checked) own started (by kernel_rfl) Try.func3
    (ChangeSpec.witness6 (enc := enc) (C := Try.checked) false ⟨#[], #[.int .u64 0, .int .i64 0, .slice none 0 0], []⟩ 8 (by kernel_rfl) (by kernel_rfl) (by kernel_rfl) (by kernel_rfl)) ?_
  intro W base args ds gs before hval0 hW hcnd hsz0 _
  have hval : ∀ (j : Nat) t v, Try.f3.params[j]? = some t → args[j]? = some v → Value.okWide Try.prog W .any base t v := hval0
  have hsz : (DataW.weightsEach Try.prog (Try.f3.params.toList ++ Rows.numBitsSpec.plain.varTypes Try.prog) (ds ++ gs)).all (· ≤ reachBytes) = true := hsz0
  clear hsz0
  have hW' := hW
  obtain ⟨p, q, hA0, hV, rfl, hfz, hnd⟩ := hW
  have hA : DataW.TrodAll enc Try.prog W 0 (fun _ => true) true Try.f3.params.toList args.toList ds p := hA0
  rw [Try.params3] at hA hval hsz
  obtain ⟨v0, vs0, d0, ds0, p0, q0, hargs, rfl, rfl, h0, r0⟩ := trodAll_cons hA
  obtain ⟨v1, vs1, d1, ds1, p1, q1, rfl, rfl, rfl, h1, r1⟩ := trodAll_cons r0
  obtain ⟨v2, vs2, d2, ds2, p2, q2, rfl, rfl, rfl, h2, r2⟩ := trodAll_cons r1
  obtain ⟨rfl, rfl, rfl⟩ := trodAll_nil r2
  obtain rfl : args = #[v0, v1, v2] := by cases args; simp_all
  obtain ⟨rfl, rfl⟩ := trodVars_none hV
  obtain ⟨a0, rfl, rfl, rfl, w0⟩ := open_int Try.underlying22 (hval 0 22 v0 rfl rfl) h0
  obtain ⟨a1, rfl, rfl, rfl, w1⟩ := open_int Try.underlying3 (hval 1 3 v1 rfl rfl) h1
  obtain ⟨a2, len2, cap2, rfl⟩ := okWide_slice Try.underlying23 (hval 2 23 v2 rfl rfl)
  have k2 := h2
  have lt2 : ∀ x ∈ p2, x.block < W.heap.size := by obtain ⟨m, hm⟩ := k2; exact DataW.trod_lt m _ _ _ hm
  obtain ⟨z2, w2, rc2⟩ : ∃ zs, IsRow .u8 W a2 len2 cap2 zs ∧ len2 ≤ 140737488351232 := by
    obtain ⟨fuel, hf⟩ := h2
    rcases open_ints Try.underlying23 Try.underlying5 (by kernel_rfl) hf with ⟨hcs, _⟩ | ⟨x, l, c, zs, hcs, _, hl, hm, hz, hx, hcell, hwz⟩
    · simp [Value.cells] at hcs
      obtain ⟨rfl, rfl, rfl⟩ := hcs
      exact ⟨[], .inl ⟨rfl, rfl, rfl, rfl⟩, by omega⟩
    · simp [Value.cells] at hcs
      obtain ⟨rfl, rfl, rfl⟩ := hcs
      have hd := (Prod.mk.inj hx).1
      have hr := sized_slice hsz (j := 2) (t := 23) (e := 5) rfl (by rw [hd]; rfl) Try.underlying23
      have hby : 1 ≤ Try.prog.bytesOf 5 := of_decide_eq_true (by kernel_rfl)
      have hr2 := Nat.le_trans (Nat.mul_le_mul_left _ hby) hr
      simp only [lits, List.length_map, List.length_take, List.length_drop, reachBytes, Nat.mul_one] at hr2
      have hz' : zs.length = cap2 := by simpa using hz
      exact ⟨zs, .inr ⟨_, rfl, hl, hm, by simpa using hz, hcell, hwz⟩, by omega⟩
  clear hA0 hval0
  refine (walk a0 a1 a2 len2 cap2 z2 W w0 w1 w2 rc2).mono fun e W' ⟨he, bel⟩ => ?_
  subst he
  exact ⟨_, rfl, _, _, _, [], _, [], hW', trodAll_mk1 (shut_bool Try.underlying4 _), (trodAll_cons_mk (shut_int Try.underlying22 w0) (trodAll_cons_mk (shut_int Try.underlying3 w1) (trodAll_cons_mk (Below.trod laidOut (by kernel_rfl) (of_decide_eq_true (by kernel_rfl)) k2 bel lt2) trodAll_mk0))), rfl, bel.frame _, fun h => by cases h⟩

theorem over : Rows.numBitsRow.holds Try.pinned (OpenSpec.ofChange Rows.numBitsSpec) :=
  OpenClaim.holds_of_wide 3 Try.f3 rfl rfl rfl rfl rfl rfl rfl ⟨rfl, rfl, rfl, rfl, rfl⟩ rfl rfl rfl rfl rfl (by kernel_rfl) Try.func3 (by kernel_rfl)
    (of_decide_eq_true (by kernel_rfl)) (by unfold Func.isWrapper; first | (rw [if_pos (by decide +kernel)]; kernel_rfl) | (rw [if_neg (by decide +kernel)]; exact ⟨rfl, rfl⟩))
    (fun os started H enc _ => lifted os started H enc)

theorem proved : Rows.NumBitsSaid := over
#print axioms proved
end Go.Proofs.Ytdbemapidecdkaa.numBits
