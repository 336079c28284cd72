/-
  The reference's hash, part by part.
-/
import Derived.Test.YtfgdddejpdjllaaDoorLow
import Derived.Test.YtfgdddejpdjllaaDoorFr0
import Derived.Test.YtfgdddejpdjllaaDoorSha0
namespace Go.Proofs.YtfgdddejpdjllaaDoor
set_option maxRecDepth 4000
open Go.RowKit

theorem rturn_bv (x : BitVec 32) (n : Int) (w : World) :
    Calls Tryd.prog 93 #[.int .u32 (wv x), .int .i64 n] w fun e w' => e = .returned (.int .u32 (wv (rotn x n))) ∧ Below w.heap.size w w' := by
  have h := rturn_any (x.toNat : Int) n w (by omega) (by have := x.isLt; omega)
  rw [rturn_eq _ _ (by omega) (by have := x.isLt; omega), turnI_rot] at h
  exact h

set_option maxHeartbeats 400000 in
theorem rthree_any (x : BitVec 32) (a b c : Int) (w : World) (a0 : 0 ≤ a) (a1 : a ≤ 32) (b0 : 0 ≤ b) (b1 : b ≤ 32) (c0 : 0 ≤ c) (c1 : c ≤ 32) :
    Calls Tryd.prog 87 #[.int .u32 (wv x), .int .i64 a, .int .i64 b, .int .i64 c] w fun e w' => e = .returned (.int .u32 (wv (rot3 x a b c))) ∧ Below w.heap.size w w' := by
  have hx := wv_xor
  go_enter Tryd.func87, Tryd.ntmps87
  go_wp2_with fail
  refine (rturn_bv x (-a) _).mono ?_
  rintro e w1 ⟨rfl, h1⟩
  go_wp2_with fail
  refine (rturn_bv x (-b) _).mono ?_
  rintro e w2 ⟨rfl, h2⟩
  go_wp2_with fail
  refine (rturn_bv x (-c) _).mono ?_
  rintro e w3 ⟨rfl, h3⟩
  go_wp2_with fail
  go_ret
  exact ⟨rfl, (h1.trans (h2.mono h1.size)).trans (h3.mono (Nat.le_trans h1.size h2.size))⟩

set_option maxHeartbeats 400000 in
theorem rsmall_any (x : BitVec 32) (a b : Int) (c : Nat) (w : World) (a0 : 0 ≤ a) (a1 : a ≤ 32) (b0 : 0 ≤ b) (b1 : b ≤ 32) (c1 : c ≤ 32) :
    Calls Tryd.prog 86 #[.int .u32 (wv x), .int .i64 a, .int .i64 b, .int .u64 c] w fun e w' => e = .returned (.int .u32 (wv (rot2 x a b c))) ∧ Below w.heap.size w w' := by
  have hx := wv_xor
  have hs := wv_shr
  go_enter Tryd.func86, Tryd.ntmps86
  go_wp2_with fail
  refine (rturn_bv x (-a) _).mono ?_
  rintro e w1 ⟨rfl, h1⟩
  go_wp2_with fail
  refine (rturn_bv x (-b) _).mono ?_
  rintro e w2 ⟨rfl, h2⟩
  go_wp2_with fail
  go_ret
  exact ⟨rfl, h1.trans (h2.mono h1.size)⟩
end Go.Proofs.YtfgdddejpdjllaaDoor
