/-
  The code on bytes alone: double, Times, Box, Unbox; origin.
-/
import Derived.Test.YtnflbagplljjlaaYMem
namespace Go.Proofs.Ytnflbagplljjlaa
open Go.RowKit

set_option maxHeartbeats 400000 in
theorem double_any (b : BitVec 8) (w : World) : Calls Try.prog 25 #[.int .u8 (yv b)] w fun e w' => e = .returned (.int .u8 (yv (dbl b))) ∧ w' = w := by
  have hd := dbl_eq b
  have h0 := yv_pos b
  have h1 := yv_le b
  have H := Lib.hid hd
  clear hd
  go_enter Try.func25, Try.ntmps25
  go_wp2
  go_ret
  exact ⟨by rw [H.out]; rfl, rfl⟩

theorem and_one : ∀ b : BitVec 8, bits BinOp.and IntKind.u8 (yv b) 1 = if b.getLsbD 0 then 1 else 0 := by decide +kernel
set_option maxHeartbeats 400000 in
theorem times_any (a b : BitVec 8) (w : World) : Calls Try.prog 12 #[.int .u8 (yv a), .int .u8 (yv b)] w fun e w' => e = .returned (.int .u8 (yv (gm a b))) ∧ w' = w := by
  go_enter Try.func12, Try.ntmps12
  go_wp2
  go_loopw [0, 1, 5] (fun x y p wr => wr = w ∧ ∃ n a' b' p', x = .int .u8 (yv a') ∧ y = .int .u8 (yv b') ∧ p = .int .u8 (yv p') ∧ b'.toNat < 2 ^ n ∧ p' ^^^ gmN n a' b' = gm a b) (fun _ y _ _ => (intOf y).toNat)
  case atStart => exact ⟨rfl, 8, a, b, 0, rfl, rfl, rfl, b.isLt, BitVec.zero_xor (x := gmN 8 a b)⟩
  case round =>
    obtain ⟨rfl, n, a', b', p', rfl, rfl, rfl, hb, hg⟩ := hrel
    by_cases hz : b' = 0
    · subst hz
      rw [gmN_zero, show p' ^^^ 0 = p' from BitVec.xor_zero] at hg
      have e0 : yv (0 : BitVec 8) = 0 := rfl
      subst hg
      clear hb
      go_wp2
      go_ret
      exact ⟨rfl, rfl⟩
    · have hz' : ¬ yv b' = 0 := fun h => hz ((yv_zero b').1 h)
      have h0 := yv_pos b'
      obtain ⟨m, rfl⟩ : ∃ m, n = m + 1 := by
        cases n with
        | zero => exact absurd (BitVec.eq_of_toNat_eq (by simpa using hb)) hz
        | succ m => exact ⟨m, rfl⟩
      have hb' : (b' >>> 1).toNat < 2 ^ m := by
        rw [BitVec.toNat_ushiftRight, Nat.shiftRight_eq_div_pow]
        rw [Nat.pow_succ] at hb; omega
      have ha := and_one b'
      have hh : yv b' / (2 : Int) = yv (b' >>> 1) := yv_half b'
      have hx := yv_xor p' a'
      rw [gmN, ← BitVec.xor_assoc] at hg
      have HB := Lib.hid hb'
      have HG := Lib.hid hg
      have HH := Lib.hid hh
      have HD := Lib.hid (fun w => double_any a' w)
      clear hb hb' hg hz hh
      cases hc : b'.getLsbD 0
      · rw [hc, if_neg (by decide)] at ha
        go_wp2_with fail
        refine (HD.out _).mono ?_
        rintro e w1 ⟨rfl, rfl⟩
        go_wp2_with fail
        go_roundw
        case rel => exact ⟨by first | rfl | trivial, m, dbl a', b' >>> 1, p', rfl, congrArg (Value.int .u8) HH.out, rfl, HB.out, by have := HG.out; rw [hc] at this; simpa using this⟩
        case measure => simp [intOf]; omega
      · rw [hc, if_pos rfl] at ha
        go_wp2_with fail
        refine (HD.out _).mono ?_
        rintro e w1 ⟨rfl, rfl⟩
        go_wp2_with fail
        go_roundw
        case rel => exact ⟨by first | rfl | trivial, m, dbl a', b' >>> 1, p' ^^^ a', rfl, congrArg (Value.int .u8) HH.out, rfl, HB.out, by have := HG.out; rw [hc] at this; simpa using this⟩
        case measure => simp [intOf]; omega

/-- A byte in a table of 256. -/
theorem index_str (s : ByteArray) (b c : BitVec 8) (h : s.data[b.toNat]? = some ⟨c⟩) (w : World) : (Instr.index 9 (.string s) (.int .u8 (yv b))).run Try.prog w = .ok (.int .u8 (yv c)) w := by
  have h0 := yv_pos b
  have e : s[(yv b).toNat]? = some ⟨c⟩ := by
    have e2 : (yv b).toNat = b.toNat := by unfold yv; simp
    rw [e2, ← h]; rfl
  simp [Instr.index, asIntOf, run_underlying Try.underlying9, h0, e]
  rfl
def byteOf (b : BitVec 8) : UInt8 := ⟨b⟩
theorem tab_at (l : List (BitVec 8)) (hl : l.length = 256) (b : BitVec 8) : (l.map byteOf).toArray[b.toNat]? = some ⟨l.getD b.toNat 0⟩ := by
  have := b.isLt
  simp [hl, byteOf, this]
theorem boxes_length : boxesL.length = 256 := by decide +kernel
theorem unboxes_length : unboxesL.length = 256 := by decide +kernel
set_option maxRecDepth 100000 in
set_option maxHeartbeats 400000 in
theorem box_any (b : BitVec 8) (w : World) : Calls Try.prog 14 #[.int .u8 (yv b)] w fun e w' => e = .returned (.int .u8 (yv (sbox b))) ∧ w' = w := by
  go_enter Try.func14, Try.ntmps14
  generalize hs : ByteArray.mk _ = S
  have hi := fun w => index_str S b (sbox b) (by rw [show S.data = (boxesL.map byteOf).toArray by rw [← hs]; kernel_rfl]; exact tab_at boxesL boxes_length b) w
  clear hs
  go_wp2
  go_ret
  exact ⟨rfl, rfl⟩
set_option maxRecDepth 100000 in
set_option maxHeartbeats 400000 in
theorem unbox_any (b : BitVec 8) (w : World) : Calls Try.prog 15 #[.int .u8 (yv b)] w fun e w' => e = .returned (.int .u8 (yv (ubox b))) ∧ w' = w := by
  go_enter Try.func15, Try.ntmps15
  generalize hs : ByteArray.mk _ = S
  have hi := fun w => index_str S b (ubox b) (by rw [show S.data = (unboxesL.map byteOf).toArray by rw [← hs]; kernel_rfl]; exact tab_at unboxesL unboxes_length b) w
  clear hs
  go_wp2
  go_ret
  exact ⟨rfl, rfl⟩
set_option maxHeartbeats 400000 in
theorem origin_any (i : Nat) (w : World) (hi : i < 16) : Calls Try.prog 40 #[.int .i64 i] w fun e w' => e = .returned (.int .i64 (org i : Nat)) ∧ w' = w := by
  have h0 : (0 : Int) ≤ (i : Int) := by omega
  have h1 : (i : Int) < 16 := by omega
  have h2 : (0 : Int) ≤ (i : Int) % 4 := by omega
  have h3 : (i : Int) % 4 < 4 := by omega
  have HO := Lib.hid (show ((i : Int) + (i : Int) % 4 * 4) % 16 = (org i : Nat) by unfold org; omega)
  clear hi
  go_enter Try.func40, Try.ntmps40
  go_wp2
  go_ret
  exact ⟨by rw [← HO.out]; rfl, rfl⟩
end Go.Proofs.Ytnflbagplljjlaa
