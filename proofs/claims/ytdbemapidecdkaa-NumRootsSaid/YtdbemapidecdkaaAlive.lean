/-
  The document's examples: alive returns true and leaves what was there as it was.
-/
import Derived.Test.YtdbemapidecdkaaNum
import Derived.Test.YtdbemapidecdkaaFrac
namespace Go.Proofs.Ytdbemapidecdkaa
open Go.RowKit

theorem frac22 : fracI 2 2 = 1779033703 := by decide +kernel
theorem turn1 : turnI 1 (-1) = 2147483648 := by decide +kernel
theorem put258 : putI 258 2 = [1, 2] := by decide +kernel

set_option maxHeartbeats 800000 in
theorem alive_any (w : World) : Calls Try.prog 10 #[] w fun e w' => e = .returned (.bool true) ∧ Below w.heap.size w w' := by
  have HP := Lib.hid (fun w => put_ok 258 2 w (by omega) (by omega) (by decide))
  have HF := Lib.hid (fun w => frac_ok 2 2 w (by omega) (by omega) (by omega))
  have HT := Lib.hid (fun w => turn_any 1 (-1) w)
  rw [frac22] at HF
  rw [turn1] at HT
  rw [put258] at HP
  go_enter Try.func10, Try.ntmps10
  go_wp2_with fail
  refine (HP.out _).mono ?_
  rintro e w1 ⟨rfl, ho, hb1⟩
  have b1 := BS.of_owns (l := [1, 2]) ho rfl (by intro z hz; simp at hz; omega)
  clear ho
  have B1 := Lib.hid b1
  clear b1
  go_wp2_with fail
  refine (HF.out _).mono ?_
  rintro e w2 ⟨rfl, hb2⟩
  have B2 := Lib.hid (B1.out.kept hb2)
  go_wp2_with fail
  refine (HT.out _).mono ?_
  rintro e w3 ⟨rfl, rfl⟩
  go_wp2_with fail
  have k1 := BS.lit w3 [1, 2] (by intro z hz; simp at hz; omega)
  have k2 := B2.out.kept ((Below.refl w3.heap.size w3).alloc (Nat.le_refl _) (.cells #[Value.int .u8 1, Value.int .u8 2] 5))
  refine (same_eq _ _ _ [1, 2] k2 k1).mono ?_
  rintro e w4 ⟨rfl, rfl⟩
  clear k1 k2
  go_wp2_with fail
  go_ret
  exact ⟨rfl, (hb1.trans (hb2.mono hb1.size)).alloc (Nat.le_trans hb1.size hb2.size) _⟩
end Go.Proofs.Ytdbemapidecdkaa
