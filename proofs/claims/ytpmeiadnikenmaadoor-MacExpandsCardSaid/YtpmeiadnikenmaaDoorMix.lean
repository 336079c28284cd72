/-
  The mixing of the hash: small functions of three words, a block's numbers.
-/
import Derived.Test.YtpmeiadnikenmaaDoorMore
import Derived.Test.YtpmeiadnikenmaaDoorNum
namespace Go.Proofs.YtpmeiadnikenmaaDoor
open Go.RowKit

theorem turn_bv (x : BitVec 32) (n : Int) (w : World) :
    Calls Tryd.prog 61 #[.int .u32 (wv x), .int .i64 n] w fun e w' => e = .returned (.int .u32 (wv (rotn x n))) ∧ w' = w := by
  have h := turn_any (x.toNat : Int) n w
  rw [turnI_rot] at h
  exact h
set_option maxHeartbeats 400000 in
theorem turns_any (x : BitVec 32) (a b c : Int) (w : World) (a0 : 0 ≤ a) (a1 : a ≤ 32) (b0 : 0 ≤ b) (b1 : b ≤ 32) (c0 : 0 ≤ c) (c1 : c ≤ 32) :
    Calls Tryd.prog 44 #[.int .u32 (wv x), .int .i64 a, .int .i64 b, .int .i64 c] w fun e w' => e = .returned (.int .u32 (wv (rot3 x a b c))) ∧ w' = w := by
  have hx := wv_xor
  go_enter Tryd.func44, Tryd.ntmps44
  go_wp2_with fail
  refine (turn_bv x (-a) _).mono ?_
  rintro e w1 ⟨rfl, rfl⟩
  go_wp2_with fail
  refine (turn_bv x (-b) _).mono ?_
  rintro e w2 ⟨rfl, rfl⟩
  go_wp2_with fail
  refine (turn_bv x (-c) _).mono ?_
  rintro e w3 ⟨rfl, rfl⟩
  go_wp2_with fail
  go_ret
  exact ⟨rfl, rfl⟩
def pickB (x y z : BitVec 32) : BitVec 32 := x &&& y ||| ~~~x &&& z
def mostB (x y z : BitVec 32) : BitVec 32 := x &&& y ||| x &&& z ||| y &&& z
theorem pick_eq (x y z : BitVec 32) : bits BinOp.or IntKind.u32 (bits BinOp.and IntKind.u32 (wv x) (wv y)) (bits BinOp.and IntKind.u32 (bits BinOp.xor IntKind.u32 IntKind.u32.max (wv x)) (wv z)) = wv (pickB x y z) := by
  rw [wv_not', wv_and, wv_and, wv_or]; rfl
set_option maxHeartbeats 400000 in
theorem chosen_any (x y z : BitVec 32) (w : World) :
    Calls Tryd.prog 45 #[.int .u32 (wv x), .int .u32 (wv y), .int .u32 (wv z)] w fun e w' => e = .returned (.int .u32 (wv (pickB x y z))) ∧ w' = w := by
  have HP := Lib.hid (pick_eq x y z)
  go_enter Tryd.func45, Tryd.ntmps45
  go_wp2_with fail
  go_ret
  exact ⟨congrArg (fun v => Ending.returned (.int .u32 v)) HP.out, rfl⟩
set_option maxHeartbeats 400000 in
theorem most_any (x y z : BitVec 32) (w : World) :
    Calls Tryd.prog 46 #[.int .u32 (wv x), .int .u32 (wv y), .int .u32 (wv z)] w fun e w' => e = .returned (.int .u32 (wv (mostB x y z))) ∧ w' = w := by
  have hand := wv_and
  have hor := wv_or
  go_enter Tryd.func46, Tryd.ntmps46
  go_wp2_with fail
  go_ret
  exact ⟨rfl, rfl⟩
end Go.Proofs.YtpmeiadnikenmaaDoor
